import PyProof.Rows.All
import Wide.All
import OpenK.AllK
import Wide.FinOn
import HandS.Words
import PySem.Challenge.RW_askshanded_k12_patterns_compared
import KE.KStateDown
import HandS.Head0
import HandS.Head1
import HandS.Head2
import HandS.HeadEnd
import HandS.HeadHook1
import HandS.HeadHook2
import HandS.Evl
import HandS.ForMost
import HandS.ExcInit
import HandS.ExcInitHot
import HandS.MakeKw
import PyProof.DictRoadsH
import PyProof.DictMoreH
import PyProof.EqKinds
import PyProof.TupleKey
import PyProof.FactsAll.NoneType
import HandS.Deep
import HandS.DeepEq
import HandS.DictComp
import HandS.FStr
import HandS.SetKeys
import HandS.IsInst
import HandS.DictTup
import HandS.RaiseMore
import HandS.Defaults
import HandS.Wide
import HandS.Flow
import HandS.Style
import HandS.Conv
import KE.KxField
import PyProof.Rows.SortShellAny
import HandS.Walk
import PyProof.Conv_bool
import KE.KFromBytes
import HandS.OwnIter
import HandS.IterNext
import HandS.IterVal
import PyProof.CollectIter
import HandS.ExcOwn
import OpenK.KOps
import HandS.Star
import HandS.MakeKwOnly
import KE.KExcSuper
import KE.KSuper
import KE.RegKSuper
import HandS.ExcSuper
import HandS.Nested
import KE.KExcIs
import HandS.ExcField
import HandS.TryOnly
import HandS.TryMany
import HandS.ExcIs
import HandS.ExcCtx
import HandS.HotCalls
import HandS.WordsExc
import HandS.Zip
import HandS.FStrTup
import PyProof.FitsInt
import PyProof.EqAt
import HandS.Iter
import HandS.Comp
import HandS.TupAny
import HandS.Codes
set_option Elab.async false
set_option linter.all false
set_option maxRecDepth 100000
namespace K12
open PySem PySem.Spec PyProof.Rows L2
def topS (i : Nat) : Stmt := PySem.Challenge.pw_askshanded_k12_patterns_compared.main.body.getD i (.Pass ⟨0, 0, 0, 0⟩)
abbrev s__law_cell : Stmt := topS 27
abbrev s__law_draws : Stmt := topS 28
abbrev s__law_asks : Stmt := topS 29
abbrev s__law_marks : Stmt := topS 30
abbrev s__law_random : Stmt := topS 31
abbrev s__law_pairs : Stmt := topS 32
abbrev s__law_client : Stmt := topS 33
abbrev s__law_copied : Stmt := topS 34
abbrev s__law_strike : Stmt := topS 35
abbrev s__law_follows : Stmt := topS 36
abbrev s__law_compared : Stmt := topS 37
abbrev s_law : Stmt := topS 38
abbrev s_check_size : Stmt := topS 19
abbrev s_check_marks : Stmt := topS 20
abbrev s_check_steps : Stmt := topS 21
abbrev s_is_ask : Stmt := topS 22
abbrev s_ascending : Stmt := topS 23
abbrev s_ends_by_ask : Stmt := topS 24
abbrev s_pairs_by_state : Stmt := topS 25
abbrev s_Machine___init__ : Stmt := inClass (topS 16) 0
abbrev s_Machine___getitem__ : Stmt := inClass (topS 16) 2
abbrev s_Machine_ends_at : Stmt := inClass (topS 16) 5
abbrev s_Machine_pairs_at : Stmt := inClass (topS 16) 6
abbrev s_Machine___bool__ : Stmt := inClass (topS 16) 4
abbrev s_Pattern___le__ : Stmt := inClass (topS 17) 0
abbrev s_PatternDuel___init__ : Stmt := inClass (topS 18) 0
abbrev s_PatternDuel_tasks_at : Stmt := inClass (topS 18) 1
abbrev s_is_held : Stmt := topS 2
abbrev s_reached_tasks : Stmt := topS 3
abbrev s_beaten_places : Stmt := topS 4
abbrev s_option_uses : Stmt := topS 5
end K12

set_option Elab.async false
set_option linter.all false
set_option maxRecDepth 100000
set_option maxHeartbeats 2000000
/-! the head's facts, all of them, by one run: defs by their looks, the rest as one list of Bools -/
namespace AE
open PySem PySem.Spec PyProof.Rows L2 He
abbrev FnZ : Type := Option (Str × Str × Arguments × FuncBody × Scope × Addr × List Str × Addr)
def fnZ (K : PySem.W.Frag) (f : Addr) : FnZ := match K.lookup f with
  | some ⟨_, _, .func fd, _⟩ => some (fd.name, fd.qualname, fd.params, fd.body, fd.scope, fd.globals, fd.closure.map (·.1), fd.builtins)
  | _ => none
def valZ (name qual : Str) (st : Stmt) (cl : List Str) : FnZ := some (name, qual, defArgs st, .stmts (defBody st), defScope st, mainGlobals, cl, builtinsNs)
structure DefZ where
  at_ : PySem.W.Frag → Addr
  val : FnZ
/-! what the module's names reach in n steps, each address once: those seen are the bits of one number -/
def insB : List Addr → List Addr → Nat → List Addr × Nat
  | [], new, seen => (new, seen)
  | r :: rs, new, seen => match Nat.land (Nat.shiftRight seen r) 1 with
    | 0 => insB rs (r :: new) (Nat.lor seen (Nat.shiftLeft 1 r))
    | _ => insB rs new seen
def lvB (g : Addr → Option Obj) : List Addr → List Addr → Nat → List Addr × Nat
  | [], new, seen => (new, seen)
  | a :: fr, new, seen => match g a with
    | some o => (match insB (refsD o) new seen with | (new1, seen1) => lvB g fr new1 seen1)
    | none => lvB g fr new seen
def asB (g : Addr → Option Obj) : Nat → List Addr → List Addr → Nat → List Addr
  | 0, all, _, _ => all
  | n + 1, all, fr, seen => match lvB g fr [] seen with
    | (new, seen1) => asB g n (all ++ new) new seen1
def partZ (n : Nat) (g : Addr → Option Obj) : PySem.W.Frag := frG g (PySem.cStatics :: asB g n [mainGlobals] [mainGlobals] (Nat.shiftLeft 1 mainGlobals))
abbrev AlZ : Type := Bool × List FnZ
def allB : List Bool → Bool
  | [] => true
  | b :: r => match b with
    | true => allB r
    | false => false
theorem allB_get : ∀ {l : List Bool} {i : Nat} {b : Bool}, allB l = true → l[i]? = some b → b = true
  | [], i, b, _, h => by cases i <;> cases h
  | c :: r, 0, b, h, e => by
    cases e
    cases c
    · cases h
    · rfl
  | c :: r, i + 1, b, h, e => by
    cases c
    · cases h
    · exact allB_get (l := r) (i := i) h e
def obsZ (n : Nat) (ex : PySem.W.Frag → List Bool) (fn : List DefZ) (g : Addr → Option Obj) : AlZ := (allB (ex (partZ n g)), fn.map fun d => fnZ (partZ n g) (d.at_ (partZ n g)))
def SaysZ (ex : PySem.W.Frag → List Bool) (fn : List DefZ) (K : PySem.W.Frag) : Prop := (allB (ex K), fn.map fun d => fnZ K (d.at_ K)) = (true, fn.map DefZ.val)
def hookZ (n : Nat) (ex : PySem.W.Frag → List Bool) (fn : List DefZ) : PySem.W.Hook where
  α := AlZ
  obs := fun s => obsZ n ex fn s.heap.get?
  val := fun _ => (true, fn.map DefZ.val)
  says := fun _ h => ∃ K : PySem.W.Frag, K.In h ∧ SaysZ ex fn K
  of := fun _ _ e => ⟨_, frG_in, e⟩
  keeps := fun _ _ _ ⟨K, hK, c⟩ k => ⟨K, PySem.W.Frag.In.keeps hK k, c⟩
theorem obsZ_eq {n : Nat} {ex : PySem.W.Frag → List Bool} {fn : List DefZ} {g : Addr → Option Obj} {s : Shared} (h : ∀ a, g a = s.heap.get? a) : obsZ n ex fn g = (hookZ n ex fn).obs s := by
  have e : g = s.heap.get? := funext h
  rw [e] <;> rfl
section
variable {ex : PySem.W.Frag → List Bool} {fn : List DefZ} {K : PySem.W.Frag}
theorem SaysZ.fact (c : SaysZ ex fn K) (i : Nat) {b : Bool} (h : (ex K)[i]? = some b := by rfl) : b = true := allB_get (show allB (ex K) = true from congrArg (fun z : AlZ => z.1) c) h
theorem SaysZ.def_ (c : SaysZ ex fn K) (i : Nat) {d : DefZ} (h : fn[i]? = some d := by rfl) : fnZ K (d.at_ K) = d.val := by
  have e : fn.map (fun d => fnZ K (d.at_ K)) = fn.map DefZ.val := congrArg (fun z : AlZ => z.2) c
  have e2 : (fn.map fun d => fnZ K (d.at_ K))[i]? = (fn.map DefZ.val)[i]? := by rw [e]
  rw [List.getElem?_map, List.getElem?_map, h] at e2
  exact Option.some.inj e2
end
def isNon : Value → Bool
  | .none => true
  | _ => false
theorem isNon_ok {v : Value} (h : isNon v = true) : v = .none := by cases v <;> first | rfl | cases h
/-- a plain def: kept, its code, no defaults -/
def plB (K : PySem.W.Frag) (f : Addr) (q : Str) : Bool := PySem.W.keepIn K (.ref f) && (match K.lookup f with
  | some ⟨_, _, .func fd, _⟩ => PySem.W.codeIn K fd.code q && isNon fd.defaults
  | _ => false)
theorem plain_z {K : PySem.W.Frag} {f : Addr} {x qual : Str} {st : Stmt} (e : fnZ K f = valZ x qual st []) (c : plB K f qual = true) : ∃ fd, Fun K x qual st f fd := by
  obtain ⟨kp, c2⟩ := ba c
  unfold fnZ at e
  cases q : K.lookup f with
  | none =>
    rw [q] at c2
    cases c2
  | some o =>
    obtain ⟨oc, od, dt, osl⟩ := o
    rw [q] at c2 e
    cases dt with
    | func fd =>
      obtain ⟨n1, n2, n3, n4, n5, n6, n7, n8, n9, n10, n11, n12, n13, n14, n15⟩ := fd
      have e2 : (some (n1, n2, n3, n4, n5, n6, n7.map (·.1), n15) : FnZ) = some (x, qual, defArgs st, .stmts (defBody st), defScope st, mainGlobals, [], builtinsNs) := e
      simp only [Option.some.injEq, Prod.mk.injEq] at e2
      obtain ⟨h1, h2, h3, h4, h5, h6, h7, h8⟩ := e2
      have h7' : n7 = [] := List.map_eq_nil_iff.mp h7
      subst h1 h2 h3 h4 h5 h6 h7' h8
      obtain ⟨k1, k2⟩ := ba (show (PySem.W.codeIn K n13 n2 && isNon n8) = true from c2)
      obtain rfl := isNon_ok k2
      exact ⟨_, ⟨oc, od, n9, n10, n11, n12, n13, n14, osl, rfl, q, k1⟩, kp⟩
    | _ => cases c2
/-- a def with defaults -/
def dfB (K : PySem.W.Frag) (f : Addr) (q : Str) (dvs : List V) (kws : List (Str × V)) : Bool := PySem.W.keepIn K (.ref f) && (match K.lookup f with
  | some ⟨_, _, .func fd, _⟩ => PySem.W.codeIn K fd.code q && (dflB K fd.defaults dvs && kwdB K fd.kwdefaults kws)
  | _ => false)
theorem dfl_z {K : PySem.W.Frag} {f : Addr} {x qual : Str} {st : Stmt} {dvs : List V} {kws : List (Str × V)} (e : fnZ K f = valZ x qual st []) (c : dfB K f qual dvs kws = true) : ∃ fd, FunD K x qual (defArgs st) (defBody st) (defScope st) dvs kws f fd := by
  obtain ⟨kp, c2⟩ := ba c
  unfold fnZ at e
  cases q : K.lookup f with
  | none =>
    rw [q] at c2
    cases c2
  | some o =>
    obtain ⟨oc, od, dt, osl⟩ := o
    rw [q] at c2 e
    cases dt with
    | func fd =>
      obtain ⟨n1, n2, n3, n4, n5, n6, n7, n8, n9, n10, n11, n12, n13, n14, n15⟩ := fd
      have e2 : (some (n1, n2, n3, n4, n5, n6, n7.map (·.1), n15) : FnZ) = some (x, qual, defArgs st, .stmts (defBody st), defScope st, mainGlobals, [], builtinsNs) := e
      simp only [Option.some.injEq, Prod.mk.injEq] at e2
      obtain ⟨h1, h2, h3, h4, h5, h6, h7, h8⟩ := e2
      have h7' : n7 = [] := List.map_eq_nil_iff.mp h7
      subst h1 h2 h3 h4 h5 h6 h7' h8
      obtain ⟨k1, k2⟩ := ba (show (PySem.W.codeIn K n13 n2 && (dflB K n8 dvs && kwdB K n9 kws)) = true from c2)
      obtain ⟨k3, k4⟩ := ba k2
      exact ⟨_, ⟨oc, od, n8, n9, n10, n11, n12, n13, n14, osl, rfl, q, k1, dflB_ok k3, kwdB_ok k4⟩, kp⟩
    | _ => cases c2
/-- an own error's class -/
def clsB (K : PySem.W.Frag) (C : Addr) : Bool := match K.lookup C with
  | some ⟨.type t, _, .cls cd, sl⟩ => decide (t = "type") && ((match cd.mro with
    | .ref C' :: bm => decide (C' = C) && PySem.HandSPX.refsVE bm
    | _ => false) && (cd.hasDict && (!cd.hasDel && (match sl.toList with
    | [_, _, _, _, some (.builtin n), _] => decide (n = "ValueError.__new__")
    | _ => false))))
  | _ => false
theorem clsB_ok {K : PySem.W.Frag} {C : Addr} (h : clsB K C = true) : ∃ nm q N bs bm sn sub ab col dd k0 k1 k2 k3 k5, K.lookup C = some (excClassObj nm q C N bs bm true sn sub ab col dd k0 k1 k2 k3 k5 "ValueError.__new__") ∧ PySem.HandSPX.refsVE bm = true := by
  unfold clsB at h
  split at h
  · rename_i t dd cd sl q
    obtain ⟨h1, h⟩ := ba h
    obtain ⟨h2, h⟩ := ba h
    obtain ⟨h3, h⟩ := ba h
    obtain ⟨h4, h5⟩ := ba h
    split at h2
    · rename_i C' bm hm
      obtain ⟨h6, h7⟩ := ba h2
      have e1 := of_decide_eq_true h1
      have e6 := of_decide_eq_true h6
      subst e1 e6
      split at h5
      · rename_i k0 k1 k2 k3 n k5 hs
        have e5 := of_decide_eq_true h5
        subst e5
        obtain ⟨nm, bs, mro, ns, qn, hd, sn, sub, ab, col, del⟩ := cd
        dsimp only at hm h3 h4
        subst hm h3
        have h4' : del = false := by
          cases del
          · rfl
          · cases h4
        subst h4'
        refine ⟨nm, qn, ns, bs, bm, sn, sub, ab, col, dd, k0, k1, k2, k3, k5, ?_, h7⟩
        rw [q]
        have es : sl = #[k0, k1, k2, k3, some (.builtin "ValueError.__new__"), k5] := Array.toList_inj.mp (by rw [hs])
        rw [es]
      · cases h5
    · cases h2
  · cases h
def isStrV (v : Option Value) (x : Str) : Bool := match v with
  | some (.str y _) => decide (y = x)
  | _ => false
theorem isStrV_ok {v : Option Value} {x : Str} (h : isStrV v x = true) : ∃ t, v = some (.str x t) := by
  unfold isStrV at h
  split at h
  · rename_i y t
    have e := of_decide_eq_true h
    subst e
    exact ⟨t, rfl⟩
  · cases h
/-- its __init__ -/
def supB (K : PySem.W.Frag) (C f : Addr) (q file : Str) : Bool := PySem.W.keepIn K (.ref f) && (match K.lookup f with
  | some ⟨_, _, .func fd, _⟩ => (PySem.W.codeIn K fd.code q && isNon fd.defaults) && ((match fd.closure with
    | [(_, cc)] => (match K.lookup cc with
      | some ⟨_, _, .cell (some (.ref c)), _⟩ => decide (c = C)
      | _ => false)
    | _ => false) && (match fd.code with
    | .ref cda => (match K.lookup cda with
      | some ⟨_, _, .fields vs, _⟩ => isStrV vs[2]? file
      | _ => false)
    | _ => false))
  | _ => false)
/-- a number of the module -/
def intZ (K : PySem.W.Frag) (x : Str) (i : Int) : Bool := match PySem.W.nsIn K mainGlobals x with
  | some (some (.int j _)) => decide (j = i)
  | _ => false
theorem intZ_ok {K : PySem.W.Frag} {x : Str} {i : Int} (c : intZ K x i = true) : ∃ t, PySem.W.nsIn K mainGlobals x = some (some (.int i t)) := by
  unfold intZ at c
  split at c
  · rename_i j t q
    have e := of_decide_eq_true c
    subst e
    exact ⟨t, q⟩
  · cases c
end AE
namespace AE
open PySem PySem.Spec PyProof.Rows L2 He
def mroB (K : PySem.W.Frag) (C : Addr) (l : List Value) : Bool := match PySem.W.clsIn K C with
  | some cd => decide (cd.mro = l)
  | _ => false
theorem mroB_ok {K : PySem.W.Frag} {C : Addr} {l : List Value} (h : mroB K C l = true) : ∃ cd, PySem.W.clsIn K C = some cd ∧ cd.mro = l := by
  unfold mroB at h
  cases q : PySem.W.clsIn K C with
  | none => rw [q] at h; cases h
  | some cd => rw [q] at h; exact ⟨cd, rfl, of_decide_eq_true h⟩
end AE

set_option Elab.async false
set_option linter.all false
set_option maxRecDepth 100000
set_option maxHeartbeats 4000000
namespace K12
open PySem PySem.Spec PyProof.Rows L2 Evl AE
def ex0 (K : PySem.W.Frag) : List Bool := [decide (PySem.W.nsIn K mainGlobals "Machine" = some (some (.ref (He.ga K "Machine")))),
  decide (PySem.W.nsIn K mainGlobals "Pattern" = some (some (.ref (He.ga K "Pattern")))),
  decide (PySem.W.nsIn K mainGlobals "Pattern" = some (some (.ref (He.ga K "Pattern")))),
  decide (PySem.W.nsIn K mainGlobals "PatternDuel" = some (some (.ref (He.ga K "PatternDuel")))),
  decide (PySem.W.nsIn K mainGlobals "_law_cell" = some (some (.ref (He.ga K "_law_cell")))),
  decide (PySem.W.nsIn K mainGlobals "_law_draws" = some (some (.ref (He.ga K "_law_draws")))),
  decide (PySem.W.nsIn K mainGlobals "_law_asks" = some (some (.ref (He.ga K "_law_asks")))),
  decide (PySem.W.nsIn K mainGlobals "_law_marks" = some (some (.ref (He.ga K "_law_marks")))),
  decide (PySem.W.nsIn K mainGlobals "_law_random" = some (some (.ref (He.ga K "_law_random")))),
  decide (PySem.W.nsIn K mainGlobals "_law_pairs" = some (some (.ref (He.ga K "_law_pairs")))),
  decide (PySem.W.nsIn K mainGlobals "_law_client" = some (some (.ref (He.ga K "_law_client")))),
  decide (PySem.W.nsIn K mainGlobals "_law_copied" = some (some (.ref (He.ga K "_law_copied")))),
  decide (PySem.W.nsIn K mainGlobals "_law_strike" = some (some (.ref (He.ga K "_law_strike")))),
  decide (PySem.W.nsIn K mainGlobals "_law_follows" = some (some (.ref (He.ga K "_law_follows")))),
  decide (PySem.W.nsIn K mainGlobals "_law_compared" = some (some (.ref (He.ga K "_law_compared")))),
  decide (PySem.W.nsIn K mainGlobals "law" = some (some (.ref (He.ga K "law")))),
  decide (PySem.W.nsIn K mainGlobals "check_size" = some (some (.ref (He.ga K "check_size")))),
  decide (PySem.W.nsIn K mainGlobals "check_marks" = some (some (.ref (He.ga K "check_marks")))),
  decide (PySem.W.nsIn K mainGlobals "check_steps" = some (some (.ref (He.ga K "check_steps")))),
  decide (PySem.W.nsIn K mainGlobals "is_ask" = some (some (.ref (He.ga K "is_ask"))))]
def ex1 (K : PySem.W.Frag) : List Bool := [decide (PySem.W.nsIn K mainGlobals "ascending" = some (some (.ref (He.ga K "ascending")))),
  decide (PySem.W.nsIn K mainGlobals "ends_by_ask" = some (some (.ref (He.ga K "ends_by_ask")))),
  decide (PySem.W.nsIn K mainGlobals "pairs_by_state" = some (some (.ref (He.ga K "pairs_by_state")))),
  decide (PySem.W.findIn K (.ref (He.ga K "Pattern")) "__init__" = some (some (.ref (He.ma K (He.ga K "Machine") "__init__")))),
  decide (PySem.W.findIn K (.ref (He.ga K "Pattern")) "__init__" = some (some (.ref (He.ma K (He.ga K "Machine") "__init__")))),
  PySem.W.isFn K (.ref (He.ma K (He.ga K "Machine") "__init__")),
  decide (PySem.W.findIn K (.ref (He.ga K "Pattern")) "__getitem__" = some (some (.ref (He.ma K (He.ga K "Machine") "__getitem__")))),
  decide (PySem.W.findIn K (.ref (He.ga K "Pattern")) "__getitem__" = some (some (.ref (He.ma K (He.ga K "Machine") "__getitem__")))),
  PySem.W.isFn K (.ref (He.ma K (He.ga K "Machine") "__getitem__")),
  decide (PySem.W.findIn K (.ref (He.ga K "Pattern")) "ends_at" = some (some (.ref (He.ma K (He.ga K "Machine") "ends_at")))),
  decide (PySem.W.findIn K (.ref (He.ga K "Pattern")) "ends_at" = some (some (.ref (He.ma K (He.ga K "Machine") "ends_at")))),
  PySem.W.isFn K (.ref (He.ma K (He.ga K "Machine") "ends_at")),
  decide (PySem.W.findIn K (.ref (He.ga K "Pattern")) "pairs_at" = some (some (.ref (He.ma K (He.ga K "Machine") "pairs_at")))),
  PySem.W.isFn K (.ref (He.ma K (He.ga K "Machine") "pairs_at")),
  decide (PySem.W.findIn K (.ref (He.ga K "Pattern")) "__bool__" = some (some (.ref (He.ma K (He.ga K "Machine") "__bool__")))),
  decide (PySem.W.findIn K (.ref (He.ga K "Pattern")) "__bool__" = some (some (.ref (He.ma K (He.ga K "Machine") "__bool__")))),
  PySem.W.isFn K (.ref (He.ma K (He.ga K "Machine") "__bool__")),
  decide (PySem.W.findIn K (.ref (He.ga K "Pattern")) "__le__" = some (some (.ref (He.ma K (He.ga K "Pattern") "__le__")))),
  PySem.W.isFn K (.ref (He.ma K (He.ga K "Pattern") "__le__")),
  decide (PySem.W.findIn K (.ref (He.ga K "PatternDuel")) "__init__" = some (some (.ref (He.ma K (He.ga K "PatternDuel") "__init__"))))]
def ex2 (K : PySem.W.Frag) : List Bool := [PySem.W.isFn K (.ref (He.ma K (He.ga K "PatternDuel") "__init__")),
  decide (PySem.W.findIn K (.ref (He.ga K "PatternDuel")) "tasks_at" = some (some (.ref (He.ma K (He.ga K "PatternDuel") "tasks_at")))),
  PySem.W.isFn K (.ref (He.ma K (He.ga K "PatternDuel") "tasks_at")),
  decide (PySem.W.nsIn K mainGlobals "is_held" = some (some (.ref (He.ga K "is_held")))),
  decide (PySem.W.nsIn K mainGlobals "reached_tasks" = some (some (.ref (He.ga K "reached_tasks")))),
  decide (PySem.W.nsIn K mainGlobals "beaten_places" = some (some (.ref (He.ga K "beaten_places")))),
  decide (PySem.W.nsIn K mainGlobals "option_uses" = some (some (.ref (He.ga K "option_uses")))),
  decide (PySem.W.nsIn K mainGlobals "len" = some none),
  decide (PySem.W.nsIn K mainGlobals "int" = some none),
  decide (PySem.W.nsIn K mainGlobals "range" = some none),
  decide (PySem.W.nsIn K mainGlobals "isinstance" = some none),
  decide (PySem.W.nsIn K mainGlobals "bool" = some none),
  decide (PySem.W.nsIn K mainGlobals "list" = some none),
  decide (PySem.W.nsIn K mainGlobals "tuple" = some none),
  decide (PySem.W.nsIn K mainGlobals "all" = some none),
  decide (PySem.W.nsIn K mainGlobals "sorted" = some none),
  decide (PySem.W.nsIn K mainGlobals "str" = some none),
  decide (PySem.W.nsIn K mainGlobals "enumerate" = some none),
  PySem.W.plainGet K (He.ga K "Pattern") Str.empty,
  PySem.W.hasDictIn K (He.ga K "Pattern")]
def ex3 (K : PySem.W.Frag) : List Bool := [PySem.W.plainOver K (He.ga K "Pattern"),
  decide (PySem.W.findIn K (.ref (He.ga K "Pattern")) "__setattr__" = some (some (.builtin "object.__setattr__"))),
  decide (PySem.W.findIn K (.ref (He.ga K "Pattern")) "size" = some none),
  decide (PySem.W.findIn K (.ref (He.ga K "Pattern")) "marks" = some none),
  decide (PySem.W.findIn K (.ref (He.ga K "Pattern")) "steps" = some none),
  decide (PySem.W.findIn K (.ref (He.ga K "Pattern")) "now" = some none),
  decide (PySem.W.findIn K (.ref (He.ga K "Pattern")) "_ends" = some none),
  decide (PySem.W.findIn K (.ref (He.ga K "Pattern")) "_pairs" = some none),
  PySem.W.makesIn K (He.ga K "Pattern"),
  PySem.W.keepIn K (.ref (He.ga K "Pattern")),
  decide (PySem.W.kitOne K (.ref (He.ga K "Pattern")) (.ref (He.ga K "Machine")) = some true),
  PySem.W.plainGet K (He.ga K "Pattern") Str.empty,
  PySem.W.hasDictIn K (He.ga K "Pattern"),
  PySem.W.plainOver K (He.ga K "Pattern"),
  decide (PySem.W.findIn K (.ref (He.ga K "Pattern")) "__setattr__" = some (some (.builtin "object.__setattr__"))),
  decide (PySem.W.findIn K (.ref (He.ga K "Pattern")) "size" = some none),
  decide (PySem.W.findIn K (.ref (He.ga K "Pattern")) "marks" = some none),
  decide (PySem.W.findIn K (.ref (He.ga K "Pattern")) "steps" = some none),
  decide (PySem.W.findIn K (.ref (He.ga K "Pattern")) "now" = some none),
  decide (PySem.W.findIn K (.ref (He.ga K "Pattern")) "_ends" = some none)]
def ex4 (K : PySem.W.Frag) : List Bool := [decide (PySem.W.findIn K (.ref (He.ga K "Pattern")) "_pairs" = some none),
  PySem.W.makesIn K (He.ga K "Pattern"),
  PySem.W.keepIn K (.ref (He.ga K "Pattern")),
  decide (PySem.W.kitOne K (.ref (He.ga K "Pattern")) (.ref (He.ga K "Machine")) = some true),
  PySem.W.plainGet K (He.ga K "PatternDuel") Str.empty,
  PySem.W.hasDictIn K (He.ga K "PatternDuel"),
  PySem.W.plainOver K (He.ga K "PatternDuel"),
  decide (PySem.W.findIn K (.ref (He.ga K "PatternDuel")) "__setattr__" = some (some (.builtin "object.__setattr__"))),
  decide (PySem.W.findIn K (.ref (He.ga K "PatternDuel")) "first" = some none),
  decide (PySem.W.findIn K (.ref (He.ga K "PatternDuel")) "second" = some none),
  PySem.W.makesIn K (He.ga K "PatternDuel"),
  PySem.W.keepIn K (.ref (He.ga K "PatternDuel")),
  PySem.W.fnIn K (He.ma K (He.ga K "Machine") "__getitem__"),
  PySem.W.isFn K (.ref (He.ma K (He.ga K "Pattern") "__le__")),
  PySem.W.notFirst K (He.ga K "Pattern") (.ref (He.ga K "Pattern")),
  decide (PySem.W.specialIn K (.builtin "object.__class__") "__get__" = some (some (.builtin "getset_descriptor.__get__"))),
  decide (PySem.W.takesIn K (.builtin "object.__class__") = some true),
  decide (PySem.W.findIn K (.ref (He.ga K "Pattern")) "__class__" = some (some (.builtin "object.__class__"))),
  decide (PySem.W.mroIn K (He.ga K "Pattern") (.type "object") = some true),
  PySem.W.noSeq K (He.ga K "Pattern")]
def ex5 (K : PySem.W.Frag) : List Bool := [decide (PySem.W.findIn K (.ref (He.ga K "Pattern")) "__class__" = some (some (.builtin "object.__class__"))),
  decide (PySem.W.mroIn K (He.ga K "Pattern") (.type "object") = some true),
  PySem.W.noSeq K (He.ga K "Pattern"),
  plB K (He.ga K "_law_cell") "_law_cell",
  plB K (He.ga K "_law_draws") "_law_draws",
  plB K (He.ga K "_law_asks") "_law_asks",
  plB K (He.ga K "_law_marks") "_law_marks",
  plB K (He.ga K "_law_random") "_law_random",
  plB K (He.ga K "_law_pairs") "_law_pairs",
  plB K (He.ga K "_law_client") "_law_client",
  plB K (He.ga K "_law_copied") "_law_copied",
  plB K (He.ga K "_law_strike") "_law_strike",
  plB K (He.ga K "_law_follows") "_law_follows",
  plB K (He.ga K "_law_compared") "_law_compared",
  plB K (He.ga K "law") "law",
  plB K (He.ga K "check_size") "check_size",
  plB K (He.ga K "check_marks") "check_marks",
  plB K (He.ga K "check_steps") "check_steps",
  plB K (He.ga K "is_ask") "is_ask",
  plB K (He.ga K "ascending") "ascending"]
def ex6 (K : PySem.W.Frag) : List Bool := [plB K (He.ga K "ends_by_ask") "ends_by_ask",
  plB K (He.ga K "pairs_by_state") "pairs_by_state",
  dfB K (He.ma K (He.ga K "Machine") "__init__") "Machine.__init__" [.int 0] [],
  plB K (He.ma K (He.ga K "Machine") "__getitem__") "Machine.__getitem__",
  plB K (He.ma K (He.ga K "Machine") "ends_at") "Machine.ends_at",
  plB K (He.ma K (He.ga K "Machine") "pairs_at") "Machine.pairs_at",
  plB K (He.ma K (He.ga K "Machine") "__bool__") "Machine.__bool__",
  plB K (He.ma K (He.ga K "Pattern") "__le__") "Pattern.__le__",
  plB K (He.ma K (He.ga K "PatternDuel") "__init__") "PatternDuel.__init__",
  plB K (He.ma K (He.ga K "PatternDuel") "tasks_at") "PatternDuel.tasks_at",
  plB K (He.ga K "is_held") "is_held",
  plB K (He.ga K "reached_tasks") "reached_tasks",
  plB K (He.ga K "beaten_places") "beaten_places",
  plB K (He.ga K "option_uses") "option_uses",
  intZ K "MOST_STATES" (200),
  intZ K "MOST_STEPS" (600),
  intZ K "LONGEST_ASK" (8)]
def exz (K : PySem.W.Frag) : List Bool := [allB (ex0 K), allB (ex1 K), allB (ex2 K), allB (ex3 K), allB (ex4 K), allB (ex5 K), allB (ex6 K)]
def fnz : List DefZ := [⟨fun K => (He.ga K "_law_cell"), valZ "_law_cell" "_law_cell" s__law_cell []⟩,
  ⟨fun K => (He.ga K "_law_draws"), valZ "_law_draws" "_law_draws" s__law_draws []⟩,
  ⟨fun K => (He.ga K "_law_asks"), valZ "_law_asks" "_law_asks" s__law_asks []⟩,
  ⟨fun K => (He.ga K "_law_marks"), valZ "_law_marks" "_law_marks" s__law_marks []⟩,
  ⟨fun K => (He.ga K "_law_random"), valZ "_law_random" "_law_random" s__law_random []⟩,
  ⟨fun K => (He.ga K "_law_pairs"), valZ "_law_pairs" "_law_pairs" s__law_pairs []⟩,
  ⟨fun K => (He.ga K "_law_client"), valZ "_law_client" "_law_client" s__law_client []⟩,
  ⟨fun K => (He.ga K "_law_copied"), valZ "_law_copied" "_law_copied" s__law_copied []⟩,
  ⟨fun K => (He.ga K "_law_strike"), valZ "_law_strike" "_law_strike" s__law_strike []⟩,
  ⟨fun K => (He.ga K "_law_follows"), valZ "_law_follows" "_law_follows" s__law_follows []⟩,
  ⟨fun K => (He.ga K "_law_compared"), valZ "_law_compared" "_law_compared" s__law_compared []⟩,
  ⟨fun K => (He.ga K "law"), valZ "law" "law" s_law []⟩,
  ⟨fun K => (He.ga K "check_size"), valZ "check_size" "check_size" s_check_size []⟩,
  ⟨fun K => (He.ga K "check_marks"), valZ "check_marks" "check_marks" s_check_marks []⟩,
  ⟨fun K => (He.ga K "check_steps"), valZ "check_steps" "check_steps" s_check_steps []⟩,
  ⟨fun K => (He.ga K "is_ask"), valZ "is_ask" "is_ask" s_is_ask []⟩,
  ⟨fun K => (He.ga K "ascending"), valZ "ascending" "ascending" s_ascending []⟩,
  ⟨fun K => (He.ga K "ends_by_ask"), valZ "ends_by_ask" "ends_by_ask" s_ends_by_ask []⟩,
  ⟨fun K => (He.ga K "pairs_by_state"), valZ "pairs_by_state" "pairs_by_state" s_pairs_by_state []⟩,
  ⟨fun K => (He.ma K (He.ga K "Machine") "__init__"), valZ "__init__" "Machine.__init__" s_Machine___init__ []⟩,
  ⟨fun K => (He.ma K (He.ga K "Machine") "__getitem__"), valZ "__getitem__" "Machine.__getitem__" s_Machine___getitem__ []⟩,
  ⟨fun K => (He.ma K (He.ga K "Machine") "ends_at"), valZ "ends_at" "Machine.ends_at" s_Machine_ends_at []⟩,
  ⟨fun K => (He.ma K (He.ga K "Machine") "pairs_at"), valZ "pairs_at" "Machine.pairs_at" s_Machine_pairs_at []⟩,
  ⟨fun K => (He.ma K (He.ga K "Machine") "__bool__"), valZ "__bool__" "Machine.__bool__" s_Machine___bool__ []⟩,
  ⟨fun K => (He.ma K (He.ga K "Pattern") "__le__"), valZ "__le__" "Pattern.__le__" s_Pattern___le__ []⟩,
  ⟨fun K => (He.ma K (He.ga K "PatternDuel") "__init__"), valZ "__init__" "PatternDuel.__init__" s_PatternDuel___init__ []⟩,
  ⟨fun K => (He.ma K (He.ga K "PatternDuel") "tasks_at"), valZ "tasks_at" "PatternDuel.tasks_at" s_PatternDuel_tasks_at []⟩,
  ⟨fun K => (He.ga K "is_held"), valZ "is_held" "is_held" s_is_held []⟩,
  ⟨fun K => (He.ga K "reached_tasks"), valZ "reached_tasks" "reached_tasks" s_reached_tasks []⟩,
  ⟨fun K => (He.ga K "beaten_places"), valZ "beaten_places" "beaten_places" s_beaten_places []⟩,
  ⟨fun K => (He.ga K "option_uses"), valZ "option_uses" "option_uses" s_option_uses []⟩]
def nm0 : List Str := [("_wall" : Str), ("is_held" : Str), ("reached_tasks" : Str), ("beaten_places" : Str), ("option_uses" : Str), ("AsksError" : Str), ("BadMachine" : Str), ("BadState" : Str), ("TooLarge" : Str), ("NoStep" : Str), ("MOST_STATES" : Str), ("MOST_STEPS" : Str), ("LONGEST_ASK" : Str), ("Machine" : Str), ("Pattern" : Str), ("PatternDuel" : Str), ("check_size" : Str), ("check_marks" : Str), ("check_steps" : Str), ("is_ask" : Str)]
def nm1 : List Str := [("ascending" : Str), ("ends_by_ask" : Str), ("pairs_by_state" : Str), ("_law_cell" : Str), ("_law_draws" : Str), ("_law_asks" : Str), ("_law_marks" : Str), ("_law_random" : Str), ("_law_pairs" : Str), ("_law_client" : Str), ("_law_copied" : Str), ("_law_strike" : Str), ("_law_follows" : Str), ("_law_compared" : Str)]
def names : List Str := nm0 ++ nm1
abbrev Rw : PySem.W.OpenRow := PySem.W.OpenLaw.row PySem.Challenge.rw_askshanded_k12_patterns_compared
abbrev hk : PySem.W.Hook := hookZ 4 exz fnz
def ob (s : PySem.W.SharedT) : AlZ := obsZ 4 exz fnz (HandSHeadRun.getT s)
theorem ob_eq (s : PySem.W.SharedT) : ob s = hk.obs s.abs := obsZ_eq (HandSHeadRun.getT_eq s)
set_option maxHeartbeats 0 in
theorem run (w : World) : HandSHeadRun.RunEq Rw (PySem.W.view Rw.prog [38]) hk ob 15000 names w := by
  intro os
  kernel_rfl
end K12

set_option Elab.async false
set_option linter.all false
set_option maxRecDepth 100000
/-! keys of dicts that are nested tuples of None, ints and texts -/
namespace PySem
open Sem (wp)
open SeqAt
inductive NK where
  | non | int (i : Int) | str (x : Str) | tup (ks : List NK)
mutual
def NK.decEq : (a b : NK) → Decidable (a = b)
  | .non, .non => Decidable.isTrue rfl
  | .non, .int _ => Decidable.isFalse (fun z => nomatch z)
  | .non, .str _ => Decidable.isFalse (fun z => nomatch z)
  | .non, .tup _ => Decidable.isFalse (fun z => nomatch z)
  | .int i, .int j => if h : i = j then Decidable.isTrue (by rw [h]) else Decidable.isFalse (fun z => h (NK.int.inj z))
  | .int _, .non => Decidable.isFalse (fun z => nomatch z)
  | .int _, .str _ => Decidable.isFalse (fun z => nomatch z)
  | .int _, .tup _ => Decidable.isFalse (fun z => nomatch z)
  | .str x, .str y => if h : x = y then Decidable.isTrue (by rw [h]) else Decidable.isFalse (fun z => h (NK.str.inj z))
  | .str _, .non => Decidable.isFalse (fun z => nomatch z)
  | .str _, .int _ => Decidable.isFalse (fun z => nomatch z)
  | .str _, .tup _ => Decidable.isFalse (fun z => nomatch z)
  | .tup xs, .tup ys => match NK.decEqs xs ys with
    | Decidable.isTrue h => Decidable.isTrue (by rw [h])
    | Decidable.isFalse h => Decidable.isFalse (fun z => h (NK.tup.inj z))
  | .tup _, .non => Decidable.isFalse (fun z => nomatch z)
  | .tup _, .int _ => Decidable.isFalse (fun z => nomatch z)
  | .tup _, .str _ => Decidable.isFalse (fun z => nomatch z)
def NK.decEqs : (a b : List NK) → Decidable (a = b)
  | [], [] => Decidable.isTrue rfl
  | [], _ :: _ => Decidable.isFalse (fun z => nomatch z)
  | _ :: _, [] => Decidable.isFalse (fun z => nomatch z)
  | x :: xs, y :: ys => match NK.decEq x y, NK.decEqs xs ys with
    | Decidable.isTrue h, Decidable.isTrue h' => Decidable.isTrue (by rw [h, h'])
    | Decidable.isFalse h, _ => Decidable.isFalse (fun z => h (List.cons.inj z).1)
    | _, Decidable.isFalse h => Decidable.isFalse (fun z => h (List.cons.inj z).2)
end
instance : DecidableEq NK := NK.decEq
mutual
def NK.depth : NK → Nat
  | .tup ks => NK.depths ks + 1
  | _ => 0
def NK.depths : List NK → Nat
  | [] => 0
  | k :: ks => max (NK.depth k) (NK.depths ks)
end
mutual
def NK.hash (w : World) : NK → Int
  | .non => 4238894112
  | .int i => hashInt i
  | .str x => hashStr w x
  | .tup ks => reduceHash (Builtin.Tuple.tupleHashOf (NK.hashes w ks))
def NK.hashes (w : World) : List NK → List Int
  | [] => []
  | k :: ks => NK.hash w k :: NK.hashes w ks
end
mutual
def NK.draws : NK → Nat
  | .tup ks => NK.drawss ks + 1
  | _ => 1
def NK.drawss : List NK → Nat
  | [] => 0
  | k :: ks => NK.draws k + NK.drawss ks
end
mutual
inductive IsNK (h : Heap) : NK → Value → Prop
  | non : IsNK h .non .none
  | int (i : Int) (t : Tok) : IsNK h (.int i) (.int i t)
  | str (x : Str) (t : Tok) : IsNK h (.str x) (.str x t)
  | tup {a : Addr} {vs : Array Value} {ks : List NK} : h.IsTuple a vs → IsNKs h ks vs.toList → IsNK h (.tup ks) (.ref a)
inductive IsNKs (h : Heap) : List NK → List Value → Prop
  | nil : IsNKs h [] []
  | cons {k : NK} {v : Value} {ks : List NK} {vs : List Value} : IsNK h k v → IsNKs h ks vs → IsNKs h (k :: ks) (v :: vs)
end
theorem IsNKs.len {h : Heap} : ∀ {ks : List NK} {vs : List Value}, IsNKs h ks vs → ks.length = vs.length
  | _, _, .nil => rfl
  | _, _, .cons _ t => by rw [List.length_cons, List.length_cons, t.len]
theorem istup_same {h : Heap} {a : Addr} {xs ys : Array Value} (x : h.IsTuple a xs) (y : h.IsTuple a ys) : xs = ys := by
  obtain ⟨o, ho, _, n, hd⟩ := x
  obtain ⟨o', ho', _, n', hd'⟩ := y
  obtain rfl : o = o' := Option.some.inj (ho.symm.trans ho')
  rw [hd] at hd'
  injection hd'
mutual
theorem IsNK.inj {h : Heap} : ∀ (x y : NK) (v : Value), IsNK h x v → IsNK h y v → x = y
  | .non, _, _, .non, r => by cases r; rfl
  | .int _, _, _, .int _ _, r => by cases r; rfl
  | .str _, _, _, .str _ _, r => by cases r; rfl
  | .tup ks, y, _, .tup ha hi, r => by
    cases r with
    | tup hb hj =>
      have e := istup_same ha hb
      subst e
      rw [IsNKs.inj ks _ _ hi hj]
theorem IsNKs.inj {h : Heap} : ∀ (xs ys : List NK) (vs : List Value), IsNKs h xs vs → IsNKs h ys vs → xs = ys
  | [], _, _, .nil, r => by cases r; rfl
  | x :: xs, _, _, .cons h1 h2, r => by
    cases r with
    | cons k1 k2 => rw [IsNK.inj x _ _ h1 k1, IsNKs.inj xs _ _ h2 k2]
end
theorem istup_keeps {h h' : Heap} {a d : Addr} {vs : Array Value} {o : Obj} {es ep} (x : h.IsTuple a vs) (ho : h.get? d = some o) (hd : o.data = .dict es ep) (hs : Heap.SameBut d h h') : h'.IsTuple a vs := by
  obtain ⟨o', ho', hc, n, hd'⟩ := x
  have hne : a ≠ d := by
    rintro rfl
    obtain rfl : o' = o := Option.some.inj (ho'.symm.trans ho)
    rw [hd] at hd'; exact nomatch hd'
  exact ⟨o', (hs.2 a hne).trans ho', hc, n, hd'⟩
mutual
theorem IsNK.keeps {h h' : Heap} {d : Addr} {o : Obj} {es ep} (ho : h.get? d = some o) (hd : o.data = .dict es ep) (hs : Heap.SameBut d h h') : ∀ (k : NK) (v : Value), IsNK h k v → IsNK h' k v
  | .non, _, .non => .non
  | .int _, _, .int i t => .int i t
  | .str _, _, .str x t => .str x t
  | .tup ks, _, .tup ha hi => .tup (istup_keeps ha ho hd hs) (IsNKs.keeps ho hd hs ks _ hi)
theorem IsNKs.keeps {h h' : Heap} {d : Addr} {o : Obj} {es ep} (ho : h.get? d = some o) (hd : o.data = .dict es ep) (hs : Heap.SameBut d h h') : ∀ (ks : List NK) (vs : List Value), IsNKs h ks vs → IsNKs h' ks vs
  | [], _, .nil => .nil
  | k :: ks, _, .cons a b => .cons (IsNK.keeps ho hd hs k _ a) (IsNKs.keeps ho hd hs ks _ b)
end
section
variable {prog : Program} {w : World}
/-! equality -/
def nkPair (xs ys : List NK) (j : Nat) : Bool := decide (xs.getD j .non = ys.getD j .non)
theorem nk_all : ∀ xs ys : List NK, ((List.range (min xs.length ys.length)).all (nkPair xs ys) && xs.length == ys.length) = decide (xs = ys)
  | [], [] => by simp
  | [], y :: ys => by simp
  | x :: xs, [] => by simp
  | x :: xs, y :: ys => by
    have ih := nk_all xs ys
    have e : (List.range (min (x :: xs).length (y :: ys).length)).all (nkPair (x :: xs) (y :: ys)) = (decide (x = y) && (List.range (min xs.length ys.length)).all (nkPair xs ys)) := by
      rw [show min (x :: xs).length (y :: ys).length = min xs.length ys.length + 1 by simp only [List.length_cons]; omega, List.range_succ_eq_map, List.all_cons, List.all_map]
      rfl
    rw [e]
    have e2 : ((x :: xs).length == (y :: ys).length) = (xs.length == ys.length) := by simp
    rw [e2, Bool.and_assoc, ih]
    by_cases h : x = y <;> by_cases h2 : xs = ys <;> simp [h, h2]
theorem nk_head {u x y : Nat} {xs ys : Nat} (hu : u + min (max x xs) (max y ys) < cLine) : u + min x y < cLine := by omega
theorem nk_tail {u x y : Nat} {xs ys : Nat} (hu : u + min (max x xs) (max y ys) < cLine) : u + min xs ys < cLine := by omega
mutual
theorem nk_eqAt : ∀ (x y : NK) (A : Around) (s : Shared) (a b : Value), IsNK s.heap x a → IsNK s.heap y b → A.units + min x.depth y.depth < cLine → EqAt A s a b (decide (x = y))
  | .non, y, A, s, _, _, ra, rb, hu => by
    cases ra
    cases rb with
    | non => rw [decide_eq_true rfl]; exact EqAt.same _
    | int i t => exact EqAt.none_int i t
    | str i t => exact EqAt.none_str i t
    | tup k1 k2 => exact EqAt.none_tuple k1 (by omega)
  | .int i, y, A, s, _, _, ra, rb, hu => by
    cases ra with
    | int _ t =>
      cases rb with
      | non => exact EqAt.int_none i t
      | int j u =>
        have e : decide ((NK.int i) = NK.int j) = (i == j) := by
          by_cases h : i = j
          · subst h; simp
          · rw [decide_eq_false (fun z => h (NK.int.inj z))]; exact (beq_eq_false_iff_ne.mpr h).symm
        rw [e]
        exact EqAt.int_int i t j u
      | str j u => exact EqAt.int_str i t j u
      | tup k1 k2 => exact EqAt.int_tuple i t k1 (by omega)
  | .str i, y, A, s, _, _, ra, rb, hu => by
    cases ra with
    | str _ t =>
      cases rb with
      | non => exact EqAt.str_none i t
      | int j u => exact EqAt.str_int i t j u
      | str j u =>
        have e : decide ((NK.str i) = NK.str j) = (i == j) := by
          by_cases h : i = j
          · subst h; simp
          · rw [decide_eq_false (fun z => h (NK.str.inj z))]; exact (beq_eq_false_iff_ne.mpr h).symm
        rw [e]
        exact EqAt.str_str i t j u
      | tup k1 k2 => exact EqAt.str_tuple i t k1 (by omega)
  | .tup xs, y, A, s, _, _, ra, rb, hu => by
    cases ra with
    | @tup l vs _ h1 h2 =>
      have hd : NK.depth (.tup xs) = NK.depths xs + 1 := by rw [NK.depth]
      cases rb with
      | non => exact EqAt.tuple_none h1 (by omega)
      | int j u => exact EqAt.tuple_int j u h1 (by omega)
      | str j u => exact EqAt.tuple_str j u h1 (by omega)
      | @tup l' vs' ys k1 k2 =>
        have hd' : NK.depth (.tup ys) = NK.depths ys + 1 := by rw [NK.depth]
        have n1 : vs.size = xs.length := by have := h2.len; simpa using this.symm
        have n2 : vs'.size = ys.length := by have := k2.len; simpa using this.symm
        by_cases hll : l = l'
        · subst hll
          have e : NK.tup xs = NK.tup ys := IsNK.inj _ _ _ (.tup h1 h2) (.tup k1 k2)
          rw [e, decide_eq_true rfl]
          exact EqAt.same _
        · have e : decide (NK.tup xs = NK.tup ys) = decide (xs = ys) := by
            by_cases h : xs = ys
            · subst h; simp
            · rw [decide_eq_false h, decide_eq_false (fun z => h (NK.tup.inj z))]
          rw [e, ← nk_all xs ys, ← n1, ← n2]
          refine EqAt.of_refs hll (RcAt.tuples h1 k1 (by omega) fun j j1 j2 => ?_)
          have := nk_eqAts xs ys A.in1 s vs.toList vs'.toList h2 k2 (by show A.units + 1 + _ < _; omega) j (by simpa using j1) (by simpa using j2)
          simpa using this
theorem nk_eqAts : ∀ (xs ys : List NK) (A : Around) (s : Shared) (vs ws : List Value), IsNKs s.heap xs vs → IsNKs s.heap ys ws → A.units + min (NK.depths xs) (NK.depths ys) < cLine →
    ∀ j (h1 : j < vs.length) (h2 : j < ws.length), EqAt A s vs[j] ws[j] (nkPair xs ys j)
  | [], _, _, _, _, _, ra, _, _, j, h1, _ => by cases ra; exact absurd h1 (Nat.not_lt_zero _)
  | _ :: _, [], _, _, _, _, _, rb, _, j, _, h2 => by cases rb; exact absurd h2 (Nat.not_lt_zero _)
  | x :: xs, y :: ys, A, s, _, _, ra, rb, hu, j, h1, h2 => by
    have d1 : NK.depths (x :: xs) = max x.depth (NK.depths xs) := by rw [NK.depths]
    have d2 : NK.depths (y :: ys) = max y.depth (NK.depths ys) := by rw [NK.depths]
    rw [d1, d2] at hu
    cases ra with
    | cons r rs =>
      cases rb with
      | cons r' rs' =>
        cases j with
        | zero => exact nk_eqAt x y A s _ _ r r' (nk_head hu)
        | succ j => exact nk_eqAts xs ys A s _ _ rs rs' (nk_tail hu) j (Nat.lt_of_succ_lt_succ h1) (Nat.lt_of_succ_lt_succ h2)
end

/-! the hash -/
theorem nk_depth_mem {k : NK} : ∀ {ks : List NK}, k ∈ ks → k.depth ≤ NK.depths ks
  | x :: xs, h => by
    rw [NK.depths]
    rcases List.mem_cons.mp h with rfl | h
    · omega
    · have := nk_depth_mem h
      omega
theorem nk_hashes_snoc (k : NK) : ∀ ks : List NK, NK.hashes w (ks ++ [k]) = NK.hashes w ks ++ [NK.hash w k]
  | [] => by simp [NK.hashes]
  | x :: xs => by rw [List.cons_append, NK.hashes, NK.hashes, nk_hashes_snoc k xs, List.cons_append]
theorem nk_drawss_snoc (k : NK) : ∀ ks : List NK, NK.drawss (ks ++ [k]) = NK.drawss ks + NK.draws k
  | [] => by simp [NK.drawss]
  | x :: xs => by rw [List.cons_append, NK.drawss, NK.drawss, nk_drawss_snoc k xs, Nat.add_assoc]
theorem nk_hash : ∀ (k : NK) (A : Around) (E : Value → Shared → Prop) (s : Shared) (v : Value) (Q : Int → Shared → Prop), IsNK s.heap k v → A.units + k.depth < cLine + 1 → Q (k.hash w) { s with toks := s.toks + k.draws } → wpAny (model prog w) A (pyHash v) Q E s
  | .non, A, E, s, _, Q, r, hu, h => by
    cases r
    have hT : s.TypeIs .none "NoneType" := rfl
    unfold pyHash
    have hv : [Value.none].any Value.onHeap = false := rfl
    refine wpAny_bind ?_
    rw [cRoomFor, if_neg (by rw [hv]; exact Bool.false_ne_true)]; refine wpAny_pure ?_
    refine wpAny_bind (wpAny_specialOf hT F.slot_NoneType_hash.lookup ?_)
    show wpAny _ _ (if (some (Value.builtin "NoneType.__hash__") == some Value.none) = true then _ else _) Q E s
    rw [if_neg (by rw [beq_builtin_none]; exact Bool.false_ne_true)]
    refine wpAny_bind (wpAny_specialOf hT F.slot_NoneType_hash.lookup ?_)
    show wpAny _ _ (callSpecialIfBoundUnlessNone? .none "__hash__" _ >>= _) Q E s
    refine wpAny_bind (wpAny_callSpecialIfBoundUnlessNone?_slot hT F.slot_NoneType_hash (wpAny_call_entry F.slot_NoneType_hash hT F.entry_NoneType_hash
      (show wpAny _ _ (do ret (← mkInt 4238894112)) _ _ s from wpAny_ret_mkInt ?_) (F.args_NoneType_hash_1 _)))
    show wpAny _ _ (if (decide (-(2 : Int) ^ 63 ≤ 4238894112) && decide ((4238894112 : Int) < 2 ^ 63)) = true then _ else _) Q E _
    rw [if_pos (by decide)]
    exact wpAny_pure (by simpa [NK.draws, NK.hash] using h)
  | .int i, A, E, s, _, Q, r, hu, h => by
    cases r
    exact wpAny_pyHash_int h
  | .str x, A, E, s, _, Q, r, hu, h => by
    cases r
    exact wpAny_pyHash_str h
  | .tup ks, A, E, s, _, Q, r, hu, h => by
    cases r with
    | @tup a vs _ hk hi =>
      have hT : s.TypeIs (.ref a) "tuple" := let ⟨o, ho, hc, _⟩ := hk; ⟨o, ho, hc⟩
      obtain ⟨o, ho, _, n, hd⟩ := hk
      unfold pyHash
      first | unfold pyHashByItsType | skip
      have hd1 : NK.depth (.tup ks) = NK.depths ks + 1 := by rw [NK.depth]
      refine wpAny_bind (wpAny_cRoomFor_or (.inr (by omega)) ?_)
      refine wpAny_bind (wpAny_specialOf hT F.slot_tuple_hash.lookup ?_)
      show wpAny _ _ (if (some (Value.builtin "tuple.__hash__") == some Value.none) = true then _ else _) Q E s
      rw [if_neg (by rw [beq_builtin_none]; exact Bool.false_ne_true)]
      refine wpAny_bind (wpAny_specialOf hT F.slot_tuple_hash.lookup ?_)
      show wpAny _ _ (callSpecialIfBoundUnlessNone? (.ref a) "__hash__" _ >>= _) Q E s
      refine wpAny_bind (wpAny_callSpecialIfBoundUnlessNone?_slot hT F.slot_tuple_hash (wpAny_call_entry F.slot_tuple_hash hT F.entry_tuple_hash ?_ (F.args_tuple_hash_1 _)))
      show wpAny _ _ (Builtin.Tuple.tupleItemsOf (.ref a) >>= _) _ _ s
      refine wpAny_bind (wpAny_tupleItemsOf ho hd ?_)
      refine wpAny_bind ?_
      rw [← Array.forIn_toList]
      refine wpAny_forIn_list _
        (fun rest (b : Array Int) s' => ∃ done left, ks = done ++ left ∧ IsNKs s.heap left rest ∧ b.toList = NK.hashes w done ∧ s' = { s with toks := s.toks + NK.drawss done })
        _ ?_ ?_ _ _ ⟨[], ks, rfl, hi, rfl, rfl⟩
      · rintro x rest b s' ⟨done, left, hks, hl, hb, rfl⟩
        cases hl with
        | @cons k _ ks' _ h1 hl' =>
          have hm : k ∈ ks := by rw [hks]; simp
          have hdk : k.depth ≤ NK.depths ks := nk_depth_mem hm
          refine wpAny_bind (nk_hash k A.in1 _ _ x _ h1 (by show A.units + 1 + _ < _; omega) ?_)
          first
            | exact wpAny_pure ⟨done ++ [k], ks', by rw [hks]; simp, hl', by simp [hb, nk_hashes_snoc], by simp [nk_drawss_snoc, Nat.add_assoc]⟩
            | exact wpAny_bind (wpAny_pure (wpAny_pure ⟨done ++ [k], ks', by rw [hks]; simp, hl', by simp [hb, nk_hashes_snoc], by simp [nk_drawss_snoc, Nat.add_assoc]⟩))
      · rintro b s' ⟨done, left, hks, hl, hb, rfl⟩
        cases hl
        rw [List.append_nil] at hks
        subst hks
        show wpAny _ _ (retInt (Builtin.Tuple.tupleHashOf b.toList)) _ _ _
        rw [hb]
        refine wpAny_ret_mkInt ?_
        show wpAny _ _ (if (decide (-(2 : Int) ^ 63 ≤ Builtin.Tuple.tupleHashOf (NK.hashes w ks)) && decide (Builtin.Tuple.tupleHashOf (NK.hashes w ks) < 2 ^ 63)) = true then _ else _) Q E _
        rw [NK.hash, NK.draws] at h
        unfold reduceHash at h
        by_cases hr : (decide (-(2 : Int) ^ 63 ≤ Builtin.Tuple.tupleHashOf (NK.hashes w ks)) && decide (Builtin.Tuple.tupleHashOf (NK.hashes w ks) < 2 ^ 63)) = true
        · rw [if_pos hr]
          rw [if_pos hr] at h
          exact wpAny_pure (by simpa [Nat.add_assoc] using h)
        · rw [if_neg hr]
          rw [if_neg hr] at h
          exact wpAny_bind (wpAny_rule (wpAny_pure (by simpa [Nat.add_assoc] using h)))
  termination_by k => sizeOf k
  decreasing_by
    have := List.sizeOf_lt_of_mem hm
    simp only [NK.tup.sizeOf_spec]
    omega
/-! no own == within -/
theorem nk_quiet : ∀ (n : Nat) (k : NK) (v : Value) {A : Around} {E : Value → Shared → Prop} {s : Shared} {Q : Bool → Shared → Prop}, IsNK s.heap k v → k.depth ≤ n → Q true s → wpAny (model prog w) A (eqIsQuiet n v) Q E s
  | n, .non, _, A, E, s, Q, .non, _, h => by rw [eqIsQuiet_byValue _ rfl]; exact wpAny_pure h
  | n, .int _, _, A, E, s, Q, .int _ _, _, h => by rw [eqIsQuiet_byValue _ rfl]; exact wpAny_pure h
  | n, .str _, _, A, E, s, Q, .str _ _, _, h => by rw [eqIsQuiet_byValue _ rfl]; exact wpAny_pure h
  | 0, .tup ks, _, A, E, s, Q, _, hd, h => by rw [NK.depth] at hd; omega
  | n + 1, .tup ks, _, A, E, s, Q, .tup hk hi, hd, h => by
    rw [NK.depth] at hd
    obtain ⟨o, ho, hc, m, hda⟩ := hk
    have hT : s.TypeIs (.ref _) "tuple" := ⟨o, ho, hc⟩
    unfold eqIsQuiet
    refine wpAny_bind (wpAny_specialOf hT F.slot_tuple_eq.lookup ?_)
    show wpAny _ _ (isInstance (.ref _) (.type "tuple") >>= _) _ _ s
    refine wpAny_bind (wpAny_isInstance hT isSubtype_tuple_tuple ?_)
    simp only [Bool.not_true, Bool.false_eq_true, if_false]
    refine wpAny_bind (wpAny_seqItems ho hda ?_)
    refine wpAny_bind ?_
    show wpAny _ _ (forIn _ _ _) _ _ s
    rw [← Array.forIn_toList]
    refine wpAny_forIn_list _ (fun rest r s' => r.1 = none ∧ s' = s ∧ ∃ left, IsNKs s.heap left rest ∧ NK.depths left ≤ n) _ ?_ ?_ _ _ ⟨rfl, rfl, ks, hi, by omega⟩
    · rintro v rest r s' ⟨hr, rfl, left, hl, hdl⟩
      cases hl with
      | @cons k _ ks' _ h1 hl' =>
        rw [NK.depths] at hdl
        refine wpAny_bind (nk_quiet n k v h1 (by omega) ?_)
        simp only [Bool.not_true, Bool.false_eq_true, if_false]
        exact wpAny_pure ⟨rfl, rfl, ks', hl', by omega⟩
    · rintro ⟨r1, r2⟩ s' ⟨hr, rfl, _⟩
      simp only at hr
      subst hr
      exact wpAny_pure h
/-- the kind of such keys -/
def nkKind (prog : Program) (w : World) : HeapKind prog w NK where
  is := fun h k a => k.depth ≤ 8 ∧ IsNK h k (.ref a)
  hash := NK.hash w
  draws := NK.draws
  room := fun A => A.units + 8 < cLine
  inj := fun hx hy => IsNK.inj _ _ _ hx.2 hy.2
  keeps := fun x ho hd hs => ⟨x.1, IsNK.keeps ho hd hs _ _ x.2⟩
  pyHash := fun hu hk h => nk_hash _ _ _ _ _ _ hk.2 (by have := hk.1; omega) h
  eqBool := fun hu hx hy h => nk_eqAt _ _ _ _ _ _ hx.2 hy.2 (by have := hx.1; omega) _ _ _ _ h
  quiet := fun hk h => nk_quiet 8 _ _ hk.2 hk.1 h
end
end PySem

set_option Elab.async false
set_option linter.all false
set_option maxRecDepth 100000
/-! dicts with nested tuples as keys, in the layer -/
namespace AE
open PySem PySem.Spec PyProof.Rows L2 Evl
mutual
/-- the value v is the key k, by tracked tuples -/
inductive NAt (H : Hp) : V → NK → Prop
  | non : NAt H .non .non
  | int (i : Int) : NAt H (.int i) (.int i)
  | str (x : Str) : NAt H (.str x) (.str x)
  | tup {a : Addr} {xs : List V} {ks : List NK} : H a = some (.tup xs) → NAts H xs ks → NAt H (.ref a) (.tup ks)
inductive NAts (H : Hp) : List V → List NK → Prop
  | nil : NAts H [] []
  | cons {v : V} {k : NK} {vs : List V} {ks : List NK} : NAt H v k → NAts H vs ks → NAts H (v :: vs) (k :: ks)
end
def TxN (H H' : Hp) : Prop := ∀ a xs, H a = some (.tup xs) → H' a = some (.tup xs)
mutual
theorem NAt.tx {H H' : Hp} (e : TxN H H') : ∀ {v : V} {k : NK}, NAt H v k → NAt H' v k
  | _, _, .non => .non
  | _, _, .int i => .int i
  | _, _, .str x => .str x
  | _, _, .tup h t => .tup (e _ _ h) (NAts.tx e t)
theorem NAts.tx {H H' : Hp} (e : TxN H H') : ∀ {vs : List V} {ks : List NK}, NAts H vs ks → NAts H' vs ks
  | _, _, .nil => .nil
  | _, _, .cons h t => .cons (NAt.tx e h) (NAts.tx e t)
end
/-- one dict: its entries in order: key, where the key stands, value -/
abbrev NE := NK × Addr × V
def valN (kvs : List NE) (k : NK) : Option V := (kvs.find? fun x => decide (x.1 = k)).map (·.2.2)
def putN (kvs : List NE) (k : NK) (a : Addr) (v : V) : List NE :=
  if (valN kvs k).isSome then kvs.map (fun x => if x.1 = k then (x.1, x.2.1, v) else x) else kvs ++ [(k, a, v)]
def dropN (kvs : List NE) (k : NK) : List NE := kvs.filter fun x => !decide (x.1 = k)
abbrev NR : List NE → List (NK × Addr × Value) → Prop := Paired fun p q => p.1 = q.1 ∧ p.2.1 = q.2.1 ∧ RelV p.2.2 q.2.2
def entryN (w : World) (x : NK × Addr × Value) : DictEntry := ⟨NK.hash w x.1, .ref x.2.1, x.2.2⟩
def DN (w : World) (a : Addr) (kvs : List NE) (h : Heap) : Prop :=
  kvs.length ≤ sizeLine ∧ (a == sysModules) = false ∧ ∃ xs : List (NK × Addr × Value), NR kvs xs ∧
    ∃ o es ep, h.get? a = some o ∧ o.ExactDict ∧ o.data = .dict es ep ∧ es.toList = xs.map (entryN w) ∧ (xs.map (·.1)).Nodup
def dN (w : World) (a : Addr) (kvs : List NE) : HO := .ext (DN w a kvs)
/-- the keys stand as they are said to -/
def KeyOk (H : Hp) (e : NE) : Prop := e.1.depth ≤ 8 ∧ NAt H (.ref e.2.1) e.1
def KeysOk (H : Hp) (kvs : List NE) : Prop := ∀ e ∈ kvs, KeyOk H e
theorem KeysOk.tx {H H' : Hp} {kvs : List NE} (e : TxN H H') (h : KeysOk H kvs) : KeysOk H' kvs := fun x hx => ⟨(h x hx).1, (h x hx).2.tx e⟩
theorem NR.val {kvs : List NE} {xs : List (NK × Addr × Value)} (r : NR kvs xs) (k : NK) : RelO (valN kvs k) ((atKey xs k).map (·.2)) := by
  unfold valN atKey
  induction r with
  | nil => exact True.intro
  | @cons p q ps qs h t ih =>
    rw [List.find?_cons, List.find?_cons, ← h.1]
    by_cases e : p.1 = k
    · rw [decide_eq_true e]
      exact h.2.2
    · rw [decide_eq_false e]
      exact ih
theorem NR.keys {kvs : List NE} {xs : List (NK × Addr × Value)} (r : NR kvs xs) : kvs.map (·.1) = xs.map (·.1) := by
  induction r with
  | nil => rfl
  | cons h t ih => rw [List.map_cons, List.map_cons, h.1, ih]
theorem NR.repl {v : V} {u : Value} (ry : RelV v u) (k : NK) : ∀ {kvs : List NE} {xs : List (NK × Addr × Value)}, NR kvs xs → NR (kvs.map fun x => if x.1 = k then (x.1, x.2.1, v) else x) (xs.map (putAt k u))
  | _, _, .nil => .nil
  | _, _, .cons (a := p) (b := q) h t => by
    rw [List.map_cons, List.map_cons]
    refine .cons ?_ (NR.repl ry k t)
    unfold putAt
    rw [← h.1]
    by_cases e : p.1 = k
    · rw [if_pos e, if_pos e]; exact ⟨rfl, h.2.1, ry⟩
    · rw [if_neg e, if_neg e]; exact h
theorem NR.put {kvs : List NE} {xs : List (NK × Addr × Value)} (r : NR kvs xs) (k : NK) (a : Addr) {v : V} {u : Value} (ry : RelV v u) : NR (putN kvs k a v) (storedH xs k a u) := by
  have e : (valN kvs k).isSome = (atKey xs k).isSome := by
    rw [(r.val k).isSome_eq, Option.isSome_map]
  unfold putN storedH
  rw [e]
  by_cases q : (atKey xs k).isSome = true
  · rw [if_pos q, if_pos q]; exact r.repl ry k
  · rw [if_neg q, if_neg q]; exact Paired.snoc r ⟨rfl, rfl, ry⟩
theorem length_putN (kvs : List NE) (k : NK) (a : Addr) (v : V) : (putN kvs k a v).length ≤ kvs.length + 1 := by
  unfold putN
  split
  · rw [List.length_map]; omega
  · rw [List.length_append]; exact Nat.le_refl _
section
variable {P : Program} {w : World} {H : Hp} {h : Heap} {a : Addr}
mutual
theorem nat_is (ok : HOk P w H h) : ∀ {v : V} {k : NK} {u : Value}, NAt H v k → RelV v u → IsNK h k u
  | _, _, _, .non, r => by cases r; exact .non
  | _, _, _, .int i, r => by obtain ⟨t, rfl⟩ := r; exact .int i t
  | _, _, _, .str x, r => by obtain ⟨t, rfl⟩ := r; exact .str x t
  | _, _, _, .tup (a := a) (xs := xs) (ks := ks) ha t, r => by
    cases r
    obtain ⟨_, its, rv, hT⟩ := (show ObjOk P w H h a (.tup xs) from ok a _ ha)
    exact .tup hT (by simpa using nats_is ok t rv)
theorem nats_is (ok : HOk P w H h) : ∀ {vs : List V} {ks : List NK} {us : List Value}, NAts H vs ks → Vals vs us → IsNKs h ks us
  | _, _, _, .nil, .nil => .nil
  | _, _, _, .cons hv ht, .cons r rs => .cons (nat_is ok hv r) (nats_is ok ht rs)
end
theorem key_is (ok : HOk P w H h) {e : NE} (k : KeyOk H e) : (nkKind P w).is h e.1 e.2.1 := ⟨k.1, nat_is ok k.2 rfl⟩
theorem dn_stable (w : World) (a : Addr) (kvs : List NE) : ∀ h1 h2 : Heap, DN w a kvs h1 → (∀ o, h1.get? a = some o → h2.get? a = some o) → DN w a kvs h2 := by
  rintro h1 h2 ⟨z, y, xs, r, o, es, ep, ho, rest⟩ st
  exact ⟨z, y, xs, r, o, es, ep, st _ ho, rest⟩
theorem dn_ok {kvs : List NE} (d : DN w a kvs h) : ObjOk P w H h a (dN w a kvs) := by
  refine ⟨d, ?_, dn_stable w a kvs⟩
  obtain ⟨_, _, _, _, o, _, _, ho, _⟩ := d
  exact ⟨o, ho⟩
theorem dn_rd {kvs : List NE} (ok : HOk P w H h) (e : Rd H a (dN w a kvs)) (hk : KeysOk H kvs) : kvs.length ≤ sizeLine ∧ (a == sysModules) = false ∧
    ∃ xs, NR kvs xs ∧ h.DictOfH (nkKind P w) a xs := by
  have q := e.ok ok
  obtain ⟨⟨z, y, xs, r, o, es, ep, ho, hx, hd, he, hn⟩, _⟩ := q
  refine ⟨z, y, xs, r, o, es, ep, ho, hx, hd, he, fun x hx => ?_, hn⟩
  have all : ∀ {l : List NE} {m : List (NK × Addr × Value)}, KeysOk H l → NR l m → ∀ x ∈ m, (nkKind P w).is h x.1 x.2.1 := by
    intro l m hk q
    induction q with
    | nil => intro x hx; exact nomatch hx
    | @cons p q ps qs hq t ih =>
      intro x hx
      rcases List.mem_cons.mp hx with e | hx
      · subst e
        have := key_is ok (hk p (List.mem_cons_self ..))
        rw [hq.1, hq.2.1] at this
        exact this
      · exact ih (fun e he => hk e (List.mem_cons_of_mem _ he)) x hx
  exact all hk r x hx
end
/-- a read of the dict at a by the key y -/
def NGet (w : World) (H : Hp) (a : Addr) (y : V) (o : Option V) : Prop := ∃ kvs k b, Rd H a (dN w a kvs) ∧ KeysOk H kvs ∧ y = .ref b ∧ k.depth ≤ 8 ∧ NAt H (.ref b) k ∧ o = valN kvs k
def NPut (w : World) (H : Hp) (a : Addr) (y v : V) (H' : Hp) : Prop := ∃ kvs k b, H a = some (dN w a kvs) ∧ KeysOk H kvs ∧ y = .ref b ∧ k.depth ≤ 8 ∧ NAt H (.ref b) k ∧ kvs.length < sizeLine ∧ H' = upd H a (dN w a (putN kvs k b v))
theorem nk_room {P : Program} {w : World} {A : Around} (hu : A.units + 64 < cLine) : (nkKind P w).room A.in1 := by
  show A.units + 1 + 8 < cLine
  omega
section
variable {X : Cx} {pins : List (Addr × Obj)} {σ : L2.St} {H : Hp} {s : Shared} {a : Addr} {y v d : V} {u r : Value} {o : Option V} {A : Around} {E : Value → Shared → Prop}
theorem n_getItem {Q : Value → Shared → Prop} (hu : A.units + 64 < cLine) (I : Inv X pins σ H s) (g : NGet X.w H a y (some v)) (ry : RelV y u) (h : ∀ w' s', Inv X pins σ H s' → RelV v w' → Q w' s') :
    wpAny (model X.prog X.w) A (getItem (.ref a) u) Q E s := by
  obtain ⟨kvs, k, b, e, hk, ey, dk, eb, l⟩ := g
  subst ey
  cases (show u = Value.ref b from ry)
  obtain ⟨z, hd, xs, rel, dd⟩ := dn_rd I.hok e hk
  obtain ⟨w', hw, rw'⟩ := RelO.some_of (v := v) (o := (atKey xs k).map (·.2)) (by rw [l]; exact rel.val k)
  obtain ⟨p, hp, hp2⟩ := Option.map_eq_some_iff.mp hw
  refine wpAny_getItem_heap (nk_room hu) ⟨dk, nat_is I.hok eb rfl⟩ dd hp ?_
  rw [hp2]
  exact h w' _ (I.tok _) rw'
theorem n_in {Q : Value → Shared → Prop} (hu : A.units + 64 < cLine) (I : Inv X pins σ H s) (g : NGet X.w H a y o) (ry : RelV y u) (h : ∀ s', Inv X pins σ H s' → Q (.bool o.isSome) s') :
    wpAny (model X.prog X.w) A (compareOp .In u (.ref a)) Q E s := by
  obtain ⟨kvs, k, b, e, hk, ey, dk, eb, l⟩ := g
  subst ey
  cases (show u = Value.ref b from ry)
  obtain ⟨z, hd, xs, rel, dd⟩ := dn_rd I.hok e hk
  refine wpAny_in_heap (nk_room hu) ⟨dk, nat_is I.hok eb rfl⟩ hd dd ?_
  have q := (rel.val k).isSome_eq
  rw [Option.isSome_map] at q
  rw [← q, ← l]
  exact h _ (I.tok _)
theorem n_notIn {Q : Value → Shared → Prop} (hu : A.units + 64 < cLine) (I : Inv X pins σ H s) (g : NGet X.w H a y o) (ry : RelV y u) (h : ∀ s', Inv X pins σ H s' → Q (.bool (!o.isSome)) s') :
    wpAny (model X.prog X.w) A (compareOp .NotIn u (.ref a)) Q E s := by
  obtain ⟨kvs, k, b, e, hk, ey, dk, eb, l⟩ := g
  subst ey
  cases (show u = Value.ref b from ry)
  obtain ⟨z, hd, xs, rel, dd⟩ := dn_rd I.hok e hk
  refine wpAny_notIn_heap (nk_room hu) ⟨dk, nat_is I.hok eb rfl⟩ hd dd ?_
  have q := (rel.val k).isSome_eq
  rw [Option.isSome_map] at q
  rw [← q, ← l]
  exact h _ (I.tok _)
theorem dn_after {X : Cx} {h' : Heap} {kvs : List NE} {xs : List (NK × Addr × Value)} {H' : Hp} (z : kvs.length ≤ sizeLine) (hd : (a == sysModules) = false) (r : NR kvs xs) (dd : h'.DictOfH (nkKind X.prog X.w) a xs) : ObjOk X.prog X.w H' h' a (dN X.w a kvs) := by
  obtain ⟨q, es, ep, hq, h2, h3, h4, _, h5⟩ := dd
  exact dn_ok ⟨z, hd, xs, r, q, es, ep, hq, h2, h3, h4, h5⟩
theorem n_setItem {H' : Hp} {Q : Unit → Shared → Prop} (hu : A.units + 64 < cLine) (I : Inv X pins σ H s) (g : NPut X.w H a y v H') (ry : RelV y u) (rv : RelV v r) (h : ∀ s', Inv X pins σ H' s' → Q () s') :
    wpAny (model X.prog X.w) A (setItem (.ref a) u r) Q E s := by
  obtain ⟨kvs, k, b, e, hk, ey, dk, eb, l, eH⟩ := g
  subst ey eH
  cases (show u = Value.ref b from ry)
  obtain ⟨z, hd, xs, rel, dd⟩ := dn_rd I.hok (.inl e) hk
  have hz : xs.length ≤ sizeLine := by rw [← Paired.length rel]; exact z
  have hl : (putN kvs k b v).length ≤ sizeLine := by have := length_putN kvs k b v; omega
  refine wpAny_setItem_heap (hsz := hz) (nk_room hu) ⟨dk, nat_is I.hok eb rfl⟩ dd fun h' dd' hs => h _ ?_
  have he : ∃ q, h'.get? a = some q := let ⟨q, _, _, hq, _⟩ := dd'; ⟨q, hq⟩
  exact d_write I (by rw [e]; exact True.intro) hs he (dn_after hl hd (rel.put k b rv) dd')
theorem n_get2 {Q : Value → Shared → Prop} (hu : A.units + 64 < cLine) (I : Inv X pins σ H s) (g : NGet X.w H a y o) (ry : RelV y u) (rd : RelV d r) (h : ∀ w' s', Inv X pins σ H s' → RelV (o.getD d) w' → Q w' s') :
    wpAny (model X.prog X.w) A (call (.builtin "dict.get") [.ref a, u, r]) Q E s := by
  obtain ⟨kvs, k, b, e, hk, ey, dk, eb, l⟩ := g
  subst ey
  cases (show u = Value.ref b from ry)
  obtain ⟨z, hd, xs, rel, dd⟩ := dn_rd I.hok e hk
  refine call_meetsIn PySem.F.slot_dict_get dd.typeIs PySem.F.entry_dict_get (PySem.F.args_dict_get_3 _ _ _) (meetsH_dict_get_default (nkKind X.prog X.w) a b hd r) ⟨nk_room hu, k, xs, ⟨dk, nat_is I.hok eb rfl⟩, dd, h _ _ (I.tok _) ?_⟩
  rw [l]
  exact (rel.val k).getD rd
theorem n_setd {kvs : List NE} {k : NK} {b : Addr} {Q : Value → Shared → Prop} (hu : A.units + 64 < cLine) (I : Inv X pins σ H s) (hD : H a = some (dN X.w a kvs)) (hk : KeysOk H kvs) (dk : k.depth ≤ 8) (eb : NAt H (.ref b) k) (hl : kvs.length < sizeLine)
    (rv : RelV v r) (h1 : ∀ x, valN kvs k = some x → ∀ w1 s1, Inv X pins σ H s1 → RelV x w1 → Q w1 s1) (h2 : valN kvs k = none → ∀ s1, Inv X pins σ (upd H a (dN X.w a (putN kvs k b v))) s1 → Q r s1) :
    wpAny (model X.prog X.w) A (call (.builtin "dict.setdefault") [.ref a, .ref b, r]) Q E s := by
  obtain ⟨_, hd, xs, rel, dd⟩ := dn_rd I.hok (.inl hD) hk
  have hx : xs.length ≤ sizeLine := by
    have e := Paired.length rel
    omega
  have hz : (putN kvs k b v).length ≤ sizeLine := Nat.le_trans (length_putN kvs k b v) (by omega)
  refine call_setdefault_heap (knd := nkKind X.prog X.w) (hsz := hx) (nk_room hu) ⟨dk, nat_is I.hok eb rfl⟩ hd dd (fun p hp => ?_) fun hn h' dd1 hs => ?_
  · have q := rel.val k
    rw [hp] at q
    cases q0 : valN kvs k with
    | none => rw [q0] at q; exact q.elim
    | some x => rw [q0] at q; exact h1 x q0 _ _ (I.tok _) q
  · have q := rel.val k
    rw [hn] at q
    cases q0 : valN kvs k with
    | some x => rw [q0] at q; exact q.elim
    | none =>
      refine h2 q0 _ ?_
      have he : ∃ q, h'.get? a = some q := let ⟨q, _, _, hq, _⟩ := dd1; ⟨q, hq⟩
      exact d_write I (by rw [hD]; trivial) hs he (dn_after hz hd (rel.put k b rv) dd1)
end
/-- a is a dict of this kind -/
def IsN (w : World) (H : Hp) (a : Addr) : Prop := ∃ kvs, Rd H a (dN w a kvs)
theorem isN_at {X : Cx} {pins : List (Addr × Obj)} {σ : L2.St} {H : Hp} {s : Shared} {a : Addr} (I : Inv X pins σ H s) (d : IsN X.w H a) :
    s.TypeIs (.ref a) "dict" ∧ (∀ b, Value.ref a = .ref b → ∃ ob, s.heap.get? b = some ob ∧ ob.dict = none) ∧ (a == sysModules) = false := by
  obtain ⟨kvs, e⟩ := d
  obtain ⟨⟨z, hd, xs, r, o, es, ep, ho, hx, _⟩, _⟩ := e.ok I.hok
  refine ⟨⟨o, ho, hx.1⟩, fun b q => ?_, hd⟩
  cases q
  exact ⟨o, ho, hx.2.1⟩
def tNNew (w : World) : TE := fun _ H Q => ∀ p, H p = none → Q (.ref p) (upd H p (dN w p []))
def tNGet (w : World) (td ty : TE) : TE := fun σ H Q => td σ H fun x H1 => ty σ H1 fun y H2 => ∃ a v, x = .ref a ∧ NGet w H2 a y (some v) ∧ Q v H2
def tNIn (w : World) (ty td : TE) : TE := fun σ H Q => ty σ H fun y H1 => td σ H1 fun x H2 => ∃ a o, x = .ref a ∧ NGet w H2 a y o ∧ Q (.bl o.isSome) H2
def tNNotIn (w : World) (ty td : TE) : TE := fun σ H Q => ty σ H fun y H1 => td σ H1 fun x H2 => ∃ a o, x = .ref a ∧ NGet w H2 a y o ∧ Q (.bl (!o.isSome)) H2
def sNPut (w : World) (td ty tv : TE) : TS := fun D σ H => tv σ H fun v H1 => td σ H1 fun x H2 => ty σ H2 fun y H3 => ∃ a H4, x = .ref a ∧ NPut w H3 a y v H4 ∧ D.nx σ H4
def tNGet2 (w : World) (td ty tx : TE) : TE := fun σ H Q => td σ H fun x H1 => ∃ a, x = .ref a ∧ IsN w H1 a ∧ ty σ H1 fun y H2 => tx σ H2 fun z H3 => ∃ o, NGet w H3 a y o ∧ Q (o.getD z) H3
def tSetdN (w : World) (td ty tx : TE) : TE := fun σ H Q => td σ H fun x Ha => ∃ a, x = .ref a ∧ IsN w Ha a ∧ ty σ Ha fun y Hb => tx σ Hb fun z Hc => ∃ (kvs : List NE) (k : NK) (b : Addr), Hc a = some (dN w a kvs) ∧ KeysOk Hc kvs ∧ y = .ref b ∧ k.depth ≤ 8 ∧ NAt Hc (.ref b) k ∧ kvs.length < sizeLine ∧
  (∀ v, valN kvs k = some v → Q v Hc) ∧ (valN kvs k = none → Q z (upd Hc a (dN w a (putN kvs k b z))))
section
variable {X : Cx} {o i e f value : Expr} {pos pos' tpos apos cpos : Pos} {td ty tv tx : TE}
theorem pe_nnew : PE X (.Dict [] [] pos) (tNNew X.w) := ⟨fun pins s σ H Q I h =>
  wpAny_Dict_empty ⟨.ref s.heap.objs.size, _, I.laid (a := s.heap.objs.size) (o := dN X.w s.heap.objs.size []) (t' := s.toks) (fun _ _ q => Heap.get?_push_of_some _ q) (Nat.le_refl _)
    (dn_ok ⟨Nat.zero_le _, beq_eq_false_iff_ne.mpr (Ne.symm (Nat.ne_of_lt I.big)), [], .nil, _, #[], 0, Heap.get?_push_size _ rfl, ⟨rfl, rfl, rfl⟩, rfl, rfl, List.nodup_nil⟩), rfl, h _ (I.hok.fresh (Nat.le_refl _))⟩⟩
theorem pe_nget (hu : X.A.units + 64 < cLine) (ho : PE X o td) (hi : PE X i ty) (hs : NoSl i) : PE X (.Subscript o i pos) (tNGet X.w td ty) := by
  refine ⟨fun pins s σ H Q I h => ?_⟩
  refine subD_of PySem.F.slot_dict_getitem.lookup hs (thn (ho.run pins s σ H _ I h) fun u s1 ⟨x, H1, I1, rx, q1⟩ => thn (hi.run pins s1 σ H1 _ I1 q1) fun iv s2 ⟨y, H2, I2, ry, a, v, ex, g, q2⟩ => ?_)
  subst ex
  obtain rfl : u = Value.ref a := rx
  have dd := isN_at I2 (let ⟨kvs, _, _, e, _⟩ := g; ⟨kvs, e⟩)
  exact ⟨dd.1, n_getItem hu I2 g ry fun w' s3 I3 rw' => ⟨v, H2, I3, rw', q2⟩⟩
theorem pc_nin (hu : X.A.units + 64 < cLine) (hi : PE X i ty) (ho : PE X o td) : PC X .In i o (tNIn X.w ty td) := by
  refine ⟨fun pins s σ H Q I h => ?_⟩
  refine thn (hi.run pins s σ H _ I h) fun iv s1 ⟨y, H1, I1, ry, q1⟩ => thn (ho.run pins s1 σ H1 _ I1 q1) fun u s2 ⟨x, H2, I2, rx, a, ov, ex, g, q2⟩ => ?_
  subst ex
  obtain rfl : u = Value.ref a := rx
  exact n_in hu I2 g ry fun s3 I3 => ⟨.bl ov.isSome, H2, I3, rfl, q2⟩
theorem pc_nnotin (hu : X.A.units + 64 < cLine) (hi : PE X i ty) (ho : PE X o td) : PC X .NotIn i o (tNNotIn X.w ty td) := by
  refine ⟨fun pins s σ H Q I h => ?_⟩
  refine thn (hi.run pins s σ H _ I h) fun iv s1 ⟨y, H1, I1, ry, q1⟩ => thn (ho.run pins s1 σ H1 _ I1 q1) fun u s2 ⟨x, H2, I2, rx, a, ov, ex, g, q2⟩ => ?_
  subst ex
  obtain rfl : u = Value.ref a := rx
  exact n_notIn hu I2 g ry fun s3 I3 => ⟨.bl (!ov.isSome), H2, I3, rfl, q2⟩
theorem ps_nput (hu : X.A.units + 64 < cLine) (ho : PE X o td) (hi : PE X i ty) (hv : PE X value tv) (hs : swapsWith value (some (.Subscript o i pos')) pos.line X.env = pure false) :
    PS X (.Assign [.Subscript o i pos'] value pos) (sNPut X.w td ty tv) := by
  refine ⟨fun pins s σ H D I h => ?_⟩
  refine wpAny_Assign_Subscript (thn (hv.run pins s σ H _ I h) fun r s1 ⟨v, H1, I1, rv, q1⟩ => thn (ho.run pins s1 σ H1 _ I1 q1) fun u s2 ⟨x, H2, I2, rx, q2⟩ => thn (hi.run pins s2 σ H2 _ I2 q2) fun iv s3 ⟨y, H3, I3, ry, a, H4, ex, g, q3⟩ => ?_) hs
  subst ex
  obtain rfl : u = Value.ref a := rx
  exact n_setItem hu I3 g ry rv fun s4 I4 => ⟨σ, H4, I4, q3⟩
theorem pe_nget2 (hu : X.A.units + 64 < cLine) (ho : PE X o td) (he : PE X e ty) (hf : PE X f tx) (m : M2 X o "get" apos e f cpos) : PE X (.Call (.Attribute o "get" apos) [e, f] [] cpos) (tNGet2 X.w td ty tx) := by
  refine ⟨fun pins s σ H Q I h => ?_⟩
  refine wpAny_Call_method m.base m.few m.line PySem.F.plainAttrs_dict PySem.F.slot_dict_get PySem.F.type_dict_get (thn (ho.run pins s σ H _ I h) fun u s1 ⟨x, H1, I1, rx, a, ex, d, q1⟩ => ?_)
  subst ex
  obtain rfl : u = Value.ref a := rx
  obtain ⟨t1, t2, _⟩ := isN_at I1 d
  refine ⟨t1, t2, ?_⟩
  rw [m.trees]
  refine Calls.callWith_builtin rfl (Calls.evalArgs_plain (Calls.spliced_cons (thn (he.run pins s1 σ H1 _ I1 q1) fun iv s2 ⟨y, H2, I2, ry, q2⟩ =>
    Calls.spliced_cons (thn (hf.run pins s2 σ H2 _ I2 q2) fun fv s3 ⟨z, H3, I3, rz, ov, g, q3⟩ => Calls.spliced_nil ?_))))
  exact n_get2 hu I3 g ry rz fun w' s4 I4 rw' => ⟨_, H3, I4, rw', q3⟩
theorem pe_setdN (hu : X.A.units + 64 < cLine) (ho : PE X o td) (he : PE X e ty) (hf : PE X f tx) (m : M2 X o "setdefault" apos e f cpos) : PE X (.Call (.Attribute o "setdefault" apos) [e, f] [] cpos) (tSetdN X.w td ty tx) := by
  refine ⟨fun pins s σ H Q I h => ?_⟩
  refine wpAny_Call_method m.base m.few m.line PySem.F.plainAttrs_dict PySem.F.slot_dict_setdefault PySem.F.type_dict_setdefault (thn (ho.run pins s σ H _ I h) fun u sa ⟨x, Ha, Ia, rx, a, ex, d, q1⟩ => ?_)
  subst ex
  cases rx
  obtain ⟨t1, t2, _⟩ := isN_at Ia d
  refine ⟨t1, t2, ?_⟩
  rw [m.trees]
  refine Calls.callWith_builtin rfl (Calls.evalArgs_plain (Calls.spliced_cons (thn (he.run pins sa σ Ha _ Ia q1) fun iv sb ⟨y, Hb, Ib, ry, q2⟩ => Calls.spliced_cons (thn (hf.run pins sb σ Hb _ Ib q2) fun fv sc hc => Calls.spliced_nil ?_))))
  obtain ⟨z, Hc, Ic, rz, kvs, k, b, ea, hk, ey, dk, eb, hl, q3, q4⟩ := hc
  subst ey
  cases ry
  exact n_setd hu Ic ea hk dk eb hl rz (fun v hv w1 s1 I1 r1 => ⟨v, _, I1, r1, q3 v hv⟩) fun hn s1 I1 => ⟨z, _, I1, rz, q4 hn⟩
end
end AE

set_option Elab.async false
set_option linter.all false
set_option maxRecDepth 100000
namespace AE
open PySem PySem.Spec PyProof.Rows L2 Evl

/-! ### heaps: what stays -/
def Tx (H H' : Hp) : Prop := ∀ a xs, H a = some (.tup xs) → H' a = some (.tup xs)
def Ch (l : Addr) (H H' : Hp) : Prop := ∀ a o, a ≠ l → H a = some o → H' a = some o
theorem Tx.refl (H : Hp) : Tx H H := fun _ _ h => h
theorem Tx.trans {H H1 H2 : Hp} (a : Tx H H1) (b : Tx H1 H2) : Tx H H2 := fun c o h => b c o (a c o h)
theorem tx_ex {H H' : Hp} (e : Ex H H') : Tx H H' := fun _ _ h => e _ _ h
theorem ch_upd {H : Hp} {l : Addr} {o : HO} : Ch l H (upd H l o) := fun a u ha h => by rw [upd_ne ha]; exact h
theorem tx_ch {H H' : Hp} {l : Addr} {xs : List V} (hl : H l = some (.lst xs)) (c : Ch l H H') : Tx H H' := fun a ys h =>
  c a _ (fun e => by subst e; rw [hl] at h; cases h) h
theorem ex_ch {H0 H H' : Hp} {l : Addr} (e : Ex H0 H) (hl : H0 l = none) (c : Ch l H H') : Ex H0 H' := fun a o h =>
  c a o (fun z => by subst z; rw [hl] at h; cases h) (e a o h)
theorem ex_upd {H0 H : Hp} {l : Addr} {o : HO} (e : Ex H0 H) (hl : H0 l = none) : Ex H0 (upd H l o) := ex_ch e hl ch_upd

/-! ### data -/
mutual
theorem dp_ex {K : PySem.W.Frag} {H H' : Hp} (e : Ex H H') : ∀ {v : V} {d : PyData}, Dp K H v d → Dp K H' v d
  | _, _, .non => .non
  | _, _, .bl b => .bl b
  | _, _, .int i => .int i
  | _, _, .str x => .str x
  | _, _, .lst h t => .lst (ex_l e h) (dpa_ex e t)
  | _, _, .tup h t => .tup (ex_t e h) (dpa_ex e t)
theorem dpa_ex {K : PySem.W.Frag} {H H' : Hp} (e : Ex H H') : ∀ {vs : List V} {ds : List PyData}, DpAll K H vs ds → DpAll K H' vs ds
  | _, _, .nil => .nil
  | _, _, .cons h t => .cons (dp_ex e h) (dpa_ex e t)
end
mutual
def flatD : PyData → Bool
  | .list _ => false
  | .dict _ => false
  | .tuple xs => flatDs xs
  | _ => true
def flatDs : List PyData → Bool
  | [] => true
  | x :: r => flatD x && flatDs r
end
theorem sqt_tx {K : PySem.W.Frag} {H H' : Hp} {a : Addr} {xs : List V} (e : Tx H H') (hf : ∀ o, H a ≠ some (.frz o (.tup xs))) (h : SqT K H a xs) : SqT K H' a xs := by
  rcases h with (h | ⟨o, h⟩) | h
  · exact .inl (.inl (e _ _ h))
  · exact absurd h (hf o)
  · exact .inr h
/-- a tuple of scalars, tracked -/
def TupAt (H : Hp) (v : V) (xs : List V) : Prop := ∃ a, v = .ref a ∧ H a = some (.tup xs)
theorem TupAt.tx {H H' : Hp} {v : V} {xs : List V} (e : Tx H H') (h : TupAt H v xs) : TupAt H' v xs := by
  obtain ⟨a, rfl, h⟩ := h
  exact ⟨a, rfl, e _ _ h⟩
/-- scalars as data -/
def scD : V → PyData
  | .int i => .int i
  | .str x => .str x
  | .bl b => .bool b
  | _ => .none
def isSc : V → Bool
  | .int _ => true
  | .str _ => true
  | .bl _ => true
  | .non => true
  | _ => false
theorem dp_sc {K : PySem.W.Frag} {H : Hp} : ∀ {v : V}, isSc v = true → Dp K H v (scD v)
  | .int i, _ => .int i
  | .str x, _ => .str x
  | .bl b, _ => .bl b
  | .non, _ => .non
theorem dpa_sc {K : PySem.W.Frag} {H : Hp} : ∀ {vs : List V}, vs.all isSc = true → DpAll K H vs (vs.map scD)
  | [], _ => .nil
  | v :: vs, h => by
    rw [List.all_cons, Bool.and_eq_true] at h
    exact .cons (dp_sc h.1) (dpa_sc h.2)
theorem TupAt.dp {K : PySem.W.Frag} {H : Hp} {v : V} {xs : List V} (h : TupAt H v xs) (s : xs.all isSc = true) : Dp K H v (.tuple (xs.map scD)) := by
  obtain ⟨a, rfl, h⟩ := h
  exact .tup (.inl (.inl h)) (dpa_sc s)
/-- a row of tuples of scalars -/
inductive Tups (H : Hp) : List V → List (List V) → Prop
  | nil : Tups H [] []
  | cons {v : V} {vs : List V} {x : List V} {xs : List (List V)} : TupAt H v x → Tups H vs xs → Tups H (v :: vs) (x :: xs)
theorem Tups.tx {H H' : Hp} (e : Tx H H') : ∀ {vs : List V} {xs : List (List V)}, Tups H vs xs → Tups H' vs xs
  | _, _, .nil => .nil
  | _, _, .cons h t => .cons (h.tx e) (t.tx e)
theorem Tups.len {H : Hp} : ∀ {vs : List V} {xs : List (List V)}, Tups H vs xs → vs.length = xs.length
  | _, _, .nil => rfl
  | _, _, .cons _ t => by rw [List.length_cons, List.length_cons, t.len]
theorem Tups.snoc {H : Hp} {v : V} {x : List V} (hv : TupAt H v x) : ∀ {vs : List V} {xs : List (List V)}, Tups H vs xs → Tups H (vs ++ [v]) (xs ++ [x])
  | _, _, .nil => .cons hv .nil
  | _, _, .cons h t => .cons h (t.snoc hv)
theorem Tups.app {H : Hp} : ∀ {vs ws : List V} {xs ys : List (List V)}, Tups H vs xs → Tups H ws ys → Tups H (vs ++ ws) (xs ++ ys)
  | _, _, _, _, .nil, t => t
  | _, _, _, _, .cons h r, t => .cons h (r.app t)
theorem Tups.get {H : Hp} : ∀ {vs : List V} {xs : List (List V)} {i : Nat} {v : V}, Tups H vs xs → vs[i]? = some v → ∃ x, xs[i]? = some x ∧ TupAt H v x
  | _, _, 0, _, .cons h _, e => by
    have e' := Option.some.inj e
    exact ⟨_, rfl, e' ▸ h⟩
  | _, _, i + 1, v, .cons _ t, e => by
    obtain ⟨x, h1, h2⟩ := Tups.get (i := i) (v := v) t (by simpa using e)
    exact ⟨x, by simpa using h1, h2⟩
theorem Tups.dp {K : PySem.W.Frag} {H : Hp} : ∀ {vs : List V} {xs : List (List V)}, Tups H vs xs → (∀ x ∈ xs, x.all isSc = true) → DpAll K H vs (xs.map fun x => .tuple (x.map scD))
  | _, _, .nil, _ => .nil
  | _, _, .cons h t, s => .cons (h.dp (s _ (List.mem_cons_self ..))) (t.dp fun x hx => s x (List.mem_cons_of_mem _ hx))

/-! ### readings, a step at a time -/
section
variable {K : PySem.W.Frag} {σ : L2.St} {H : Hp} {Q : VK} {D : Ends} {ta tb te tc : TE} {t u : TT} {x y v : V} {QB : Bool → Hp → Prop} {QA : List V → Hp → Prop} {ts tu tz : TS} {r r' : R2}
theorem r_var {i : Nat} (h : σ[i]? = some (some v)) (q : Q v H) : tVar i σ H Q := ⟨v, h, q⟩
theorem r_c (q : Q v H) : tC v σ H Q := q
theorem r_op (q : ta σ H fun x H1 => tb σ H1 fun y H2 => r x y H2 Q) : tOp r ta tb σ H Q := q
theorem r_un {f : V → Hp → VK → Prop} (q : ta σ H fun x H1 => f x H1 Q) : tUn f ta σ H Q := q
theorem r_I0 {g : Int → Int → V} {i j : Int} (q : Q (g i j) H) : rI0 g (.int i) (.int j) H Q := ⟨i, j, rfl, rfl, q⟩
theorem r_I {C : Int → Int → Prop} {g : Int → Int → V} {i j : Int} (c : C i j) (q : Q (g i j) H) : rI C g (.int i) (.int j) H Q := ⟨i, j, rfl, rfl, c, q⟩
theorem r_U {g : Int → V} {i : Int} (q : Q (g i) H) : rU g (.int i) H Q := ⟨i, rfl, q⟩
theorem r_eq (c : scal x y = true) (q : Q (.bl (decide (x = y))) H) : rEq x y H Q := ⟨c, q⟩
theorem r_ne (c : scal x y = true) (q : Q (.bl (!decide (x = y))) H) : rNe x y H Q := ⟨c, q⟩
theorem r_chain (q : ta σ H fun x H1 => tb σ H1 fun y H2 => r x y H2 fun z H3 => ∃ k, z = .bl k ∧ (if k = true then tc σ H3 fun w' H4 => r' y w' H4 Q else Q (.bl false) H3)) : tChain r r' ta tb tc σ H Q := q
theorem r_test (q : te σ H fun x H' => ∃ k, x = .bl k ∧ QB k H') : tTest te σ H QB := q
theorem r_tB (q : te σ H fun x H' => ∃ k, x = .bl k ∧ QB k H') : tB te σ H QB := q
theorem r_bl {b : Bool} {R : Bool → Prop} (q : R b) : ∃ k, V.bl b = .bl k ∧ R k := ⟨b, rfl, q⟩
theorem r_and (q : t σ H fun c H1 => if c = true then u σ H1 QB else QB false H1) : tAnd t u σ H QB := q
theorem r_or (q : t σ H fun c H1 => if c = true then QB true H1 else u σ H1 QB) : tOr t u σ H QB := q
theorem r_not (q : t σ H fun c H1 => QB (!c) H1) : tNot t σ H QB := q
theorem r_nil (q : QA [] H) : tNil σ H QA := q
theorem r_cons {tr : TA} (q : ta σ H fun x H1 => tr σ H1 fun xs H2 => QA (x :: xs) H2) : tCons ta tr σ H QA := q
theorem r_tup {tr : TA} (q : tr σ H fun xs H1 => xs.length ≤ sizeLine ∧ ∀ p, H1 p = none → Q (.ref p) (upd H1 p (.tup xs))) : tTup tr σ H Q := q
theorem r_lst {tr : TA} (q : tr σ H fun xs H1 => xs.length ≤ sizeLine ∧ ∀ p, H1 p = none → Q (.ref p) (upd H1 p (.lst xs))) : tLst tr σ H Q := q
theorem r_cb {f : List V → Hp → VK → Prop} {tr : TA} (q : tr σ H fun vs H1 => f vs H1 Q) : tCB f tr σ H Q := q
theorem r_call {sp : Sp} {dvs : List V} {E : XK} {tr : TA} (q : tr σ H fun vs H1 => sp (vs ++ dvs) H1 Q E) : tCall sp dvs E tr σ H Q := q
theorem r_seq (q : ts { D with nx := tz D } σ H) : tSeq ts tz D σ H := q
theorem r_set {i : Nat} (q : te σ H fun x H1 => D.nx (σ.set i (some x)) H1) : tAsg te (gName i) D σ H := q
theorem r_drop (q : te σ H fun _ H1 => D.nx σ H1) : tDrop te D σ H := q
theorem r_ret (q : te σ H D.rt) : tRet te D σ H := q
theorem r_next (q : D.nx σ H) : tNext D σ H := q
theorem r_if (q : t σ H fun b H1 => if b = true then ts D σ H1 else tu D σ H1) : tIfS t ts tu D σ H := q
theorem ite_t {b : Bool} {A B : Prop} (h : b = true) (q : A) : if b = true then A else B := by rw [if_pos h]; exact q
theorem ite_f {b : Bool} {A B : Prop} (h : b = false) (q : B) : if b = true then A else B := by rw [if_neg (by rw [h]; decide)]; exact q
theorem ite_b {b : Bool} {A B : Prop} (h1 : b = true → A) (h2 : b = false → B) : if b = true then A else B := by
  cases b with
  | true => rw [if_pos rfl]; exact h1 rfl
  | false => rw [if_neg (by decide)]; exact h2 rfl
end
end AE

set_option Elab.async false
set_option linter.all false
set_option maxRecDepth 100000
namespace AE
open PySem PySem.Spec PyProof.Rows L2 Evl
section
variable {X : Cx}
def rAddS0 : R2 := fun x y H Q => ∃ i j, x = .str i ∧ y = .str j ∧ i.length + j.length ≤ sizeLine ∧ Q (.str (i ++ j)) H
def rAddA (K : PySem.W.Frag) : R2 := fun x y H Q => rI0 (fun i j => .int (i + j)) x y H Q ∨ (rAddS0 x y H Q ∨ (rCat x y H Q ∨ rCatT K x y H Q))
theorem opAdd : OpR X (binaryOp .Add) (rAddA X.K) := OpR.or op_add (OpR.or op_add_str (OpR.or op_cat op_catT))
def cLen (K : PySem.W.Frag) : List V → Hp → VK → Prop := fun xs H Q => (∃ p ys, xs = [.ref p] ∧ (SqL K H p ys ∨ SqT K H p ys) ∧ Q (.int ys.length) H) ∨ (∃ z, xs = [.str z] ∧ z.length ≤ sizeLine ∧ Q (.int z.length) H)
theorem c_len : CallR X (.builtin "len") (cLen X.K) := CallR.or call_len_seq call_len_str
def cInt : List V → Hp → VK → Prop := fun xs H Q => (∃ i, xs = [.int i] ∧ Q (.int i) H) ∨ ∃ k, xs = [.bl k] ∧ Q (.int (if k then 1 else 0)) H
theorem c_int : CallR X (.type "int") cInt := call_int1
def cList (K : PySem.W.Frag) : List V → Hp → VK → Prop := fun xs H Q => ∃ p ys, xs = [.ref p] ∧ (SqL K H p ys ∨ SqT K H p ys) ∧ ∀ l, H l = none → Q (.ref l) (upd H l (.lst ys))
theorem c_list : CallR X (.type "list") (cList X.K) := call_list_of
def cTup (K : PySem.W.Frag) : List V → Hp → VK → Prop := fun xs H Q => ∃ p ys, xs = [.ref p] ∧ ((SqL K H p ys ∧ ∀ l, H l = none → Q (.ref l) (upd H l (.tup ys))) ∨ (SqT K H p ys ∧ Q (.ref p) H))
theorem c_tuple : CallR X (.type "tuple") (cTup X.K) := call_tuple_of
theorem c_isinstance : CallR X (.builtin "isinstance") (rIsi X.K) := call_isi
def rLe1 : R2 := rI0 fun i j => .bl (decide (i ≤ j))
end
section
variable {K : PySem.W.Frag} {σ : L2.St} {H : Hp} {Q : VK} {D : Ends} {ta tb te tc : TE} {t u : TT} {x y v : V} {ts tu tz : TS} {QB : Bool → Hp → Prop} {QA : List V → Hp → Prop}
theorem add_int {i j : Int} (q : Q (.int (i + j)) H) : rAddA K (.int i) (.int j) H Q := .inl ⟨i, j, rfl, rfl, q⟩
theorem add_str {i j : Str} (l : i.length + j.length ≤ sizeLine) (q : Q (.str (i ++ j)) H) : rAddA K (.str i) (.str j) H Q := .inr (.inl ⟨i, j, rfl, rfl, l, q⟩)
theorem add_lst {a b : Addr} {xs ys : List V} (ha : H a = some (.lst xs)) (hb : H b = some (.lst ys)) (l : xs.length + ys.length ≤ sizeLine) (q : ∀ p, H p = none → Q (.ref p) (upd H p (.lst (xs ++ ys)))) : rAddA K (.ref a) (.ref b) H Q :=
  .inr (.inr (.inl ⟨a, b, xs, ys, rfl, rfl, ha, hb, l, q⟩))
theorem len_l {p : Addr} {ys : List V} (h : SqL K H p ys) (q : Q (.int ys.length) H) : cLen K [.ref p] H Q := .inl ⟨p, ys, rfl, .inl h, q⟩
theorem len_t {p : Addr} {ys : List V} (h : SqT K H p ys) (q : Q (.int ys.length) H) : cLen K [.ref p] H Q := .inl ⟨p, ys, rfl, .inr h, q⟩
theorem len_s {z : Str} (h : z.length ≤ sizeLine) (q : Q (.int z.length) H) : cLen K [.str z] H Q := .inr ⟨z, rfl, h, q⟩
theorem int_i {i : Int} (q : Q (.int i) H) : cInt [.int i] H Q := .inl ⟨i, rfl, q⟩
theorem ix_l {p : Addr} {xs : List V} {i : Int} (h : SqL K H p xs) (e : atI xs i = some v) (q : Q v H) : rIx K (.ref p) (.int i) H Q := .inl ⟨p, xs, i, v, rfl, rfl, h, e, q⟩
theorem ix_t {p : Addr} {xs : List V} {i : Int} (h : SqT K H p xs) (e : atI xs i = some v) (q : Q v H) : rIx K (.ref p) (.int i) H Q := .inr (.inl ⟨p, xs, i, v, rfl, rfl, h, e, q⟩)
theorem ix_s {z : Str} {i : Int} {c : Nat} (l : z.length ≤ sizeLine) (e : atI z.cps.toList i = some c) (q : Q (.str ⟨#[c]⟩) H) : rIx K (.str z) (.int i) H Q := .inr (.inr ⟨z, i, c, rfl, rfl, l, e, q⟩)
theorem sl_l {p : Addr} {xs : List V} {lo hi : Option Int} (h : SqL K H p xs) (q : ∀ l, H l = none → Q (.ref l) (upd H l (.lst (cutV xs lo hi)))) : rSlL K (.ref p) lo hi H Q := ⟨p, xs, rfl, h, q⟩
theorem sl_s {z : Str} {lo hi : Option Int} (h : z.length ≤ sizeLine) (q : Q (.str (cutS z lo hi)) H) : rSlS (.str z) lo hi H Q := ⟨z, rfl, h, q⟩
theorem r_sl {r : V → Option Int → Option Int → Hp → VK → Prop} {tl th : TO} (q : te σ H fun x H1 => tl σ H1 fun l H2 => th σ H2 fun u H3 => r x l u H3 Q) : tSl r te tl th σ H Q := q
theorem r_nop {QO : Option Int → Hp → Prop} (q : QO none H) : tNoPart σ H QO := q
theorem r_prt {QO : Option Int → Hp → Prop} (q : te σ H fun x H1 => ∃ i, x = .int i ∧ QO (some i) H1) : tPart te σ H QO := q
theorem r_some {R : Int → Prop} {i : Int} (q : R i) : ∃ j, V.int i = .int j ∧ R j := ⟨i, rfl, q⟩
theorem r_app {i : Nat} {l : Addr} {xs : List V} (h0 : σ[i]? = some (some (.ref l))) (h : H l = some (.lst xs)) (q : te σ H fun y H2 => rAppend (.ref l) [y] H2 Q) : tBM K "list" rAppend (tVar i) (tCons te tNil) σ H Q :=
  ⟨_, h0, .inl ⟨rfl, _, .inl (.inl h)⟩, q⟩
theorem app_l {l : Addr} {xs : List V} (h : H l = some (.lst xs)) (z : xs.length < sizeLine) (q : Q .non (upd H l (.lst (xs ++ [y])))) : rAppend (.ref l) [y] H Q := ⟨l, xs, y, rfl, rfl, h, z, q⟩
/-! loops -/
def LR1 (i : Nat) (tb : TS) (D : Ends) (σ : L2.St) : List V → Hp → Prop := fun vs H1 => ∃ j : Int, vs = [.int j] ∧ -(2 ^ 62) ≤ j ∧ j < 2 ^ 62 ∧
  ∃ W : Nat → Nat → L2.St → Hp → Prop, (∃ m, W 0 m σ H1) ∧ ∀ i' m σ H, W i' m σ H → ((Itr 0 j.toNat).stop i' H ∧ D.nx σ H) ∨ ((Itr 0 j.toNat).go i' H ∧ ∃ N : L2.St → Hp → Prop, (∀ σ' H', N σ' H' → ∃ m', m' < m ∧ W (i' + 1) m' σ' H') ∧
    ∀ x H', (Itr 0 j.toNat).yld i' H x H' → gName i x σ H' fun σ2 H2 => tb { D with nx := N, ct := N, bk := D.nx } σ2 H2)
theorem r_forR1 {ta : TA} {i : Nat} (q : ta σ H (LR1 i tz D σ)) : tFor (iRng1 ta) (gName i) tz D σ H := q
theorem lr1_go {i : Nat} {n : Int} (Pv : Nat → L2.St → Hp → Prop) (h0 : Pv 0 σ H) (hn : 0 ≤ n ∧ n ≤ 100000000)
    (hs : ∀ (k : Nat) σ' H', (k : Int) < n → Pv k σ' H' → tz { D with nx := Pv (k + 1), ct := Pv (k + 1), bk := D.nx } (σ'.set i (some (.int (k : Int)))) H')
    (hd : ∀ σ' H', Pv n.toNat σ' H' → D.nx σ' H') : LR1 i tz D σ [.int n] H :=
  ⟨n, rfl, by omega, by omega, for_range (lo := 0) (n := n.toNat) Pv h0 (fun k σ' H' hk p => by
    have q := hs k σ' H' (by omega) p
    show gName i (.int (0 + (k : Int))) σ' H' _
    rw [Int.zero_add]
    exact q) hd⟩
def LL (K : PySem.W.Frag) (g : TG) (tb : TS) (D : Ends) (σ : L2.St) : V → Hp → Prop := fun x H1 => ∃ a, x = .ref a ∧ (∃ xs, SqL K H1 a xs) ∧
  ∃ W : Nat → Nat → L2.St → Hp → Prop, (∃ m, W 0 m σ H1) ∧ ∀ i m σ H, W i m σ H → ((Itl K a).stop i H ∧ D.nx σ H) ∨ ((Itl K a).go i H ∧ ∃ N : L2.St → Hp → Prop, (∀ σ' H', N σ' H' → ∃ m', m' < m ∧ W (i + 1) m' σ' H') ∧
    ∀ x H', (Itl K a).yld i H x H' → g x σ H' fun σ2 H2 => tb { D with nx := N, ct := N, bk := D.nx } σ2 H2)
theorem r_forL {g : TG} (q : te σ H (LL K g tz D σ)) : tFor (iList K te) g tz D σ H := q
theorem ll_go {g : TG} {a : Addr} {xs : List V} (hx : SqL K H a xs) (Pv : Nat → L2.St → Hp → Prop) (h0 : Pv 0 σ H) (hl : ∀ i σ' H', i ≤ xs.length → Pv i σ' H' → SqL K H' a xs)
    (hs : ∀ i x σ' H', xs[i]? = some x → Pv i σ' H' → g x σ' H' fun σ2 H2 => tz { D with nx := Pv (i + 1), ct := Pv (i + 1), bk := D.nx } σ2 H2)
    (hd : ∀ σ' H', Pv xs.length σ' H' → D.nx σ' H') : LL K g tz D σ (.ref a) H :=
  ⟨a, rfl, ⟨xs, hx⟩, for_list Pv h0 hl hs hd⟩
end
end AE

set_option Elab.async false
set_option linter.all false
set_option maxRecDepth 100000
namespace AE
open PySem PySem.Spec PyProof.Rows L2 Evl
open PySem.W
open Builtin
/-- a number below 1000 as three signs -/
def p3 (a : Int) : Str := ⟨#[48 + (a / 100).toNat, 48 + (a / 10 % 10).toNat, 48 + (a % 10).toNat]⟩
set_option maxHeartbeats 4000000 in
theorem run03 (n : Fin 200) {t : Tok} : ∀ u, Meets («int.__format__» ⟨[.int (n.val : Int) t, .str "03d" u], []⟩) (fun _ R s => ∀ t' k, R (.ok (.ret (.str (p3 (n.val : Int)) t'))) { s with toks := k }) := by
  intro u
  apply KPc.meets_of
  intro _ _ _ _ _ _ hq
  unfold Builtin.«int.__format__»
  refine wpAny_bind (wpAny_of_eq (a := (_, _)) rfl ?_)
  refine wpAny_bind (wpAny_of_eq (a := _) rfl ?_)
  kxf_if
  refine wpAny_bind (wpAny_typeNameOf (T := "str") (typeIs_str _ _ _) (by decide) fun _ => ?_)
  refine wpAny_bind (wpAny_of_eq (a := some _) rfl ?_)
  kxf_if
  kxf_if
  refine wpAny_bind (wpAny_typeNameOfCut_int ?_)
  (repeat kxf_if)
  have hd : ((n.val : Int)).natAbs.log2 < 1920 := by
    have h2 : (n.val : Int).natAbs < 2 ^ 1920 := Nat.lt_of_lt_of_le (show (n.val : Int).natAbs < 1024 by have := n.isLt; omega) (by decide +kernel)
    by_cases hz : (n.val : Int).natAbs = 0
    · rw [hz]; decide
    · exact (Nat.log2_lt hz).mpr h2
  refine wpAny_bind (wpAny_of_eq (PySem.overDigitLimit_small hd) ?_)
  (repeat kxf_if)
  refine KXf.ret_text (T := p3 (n.val : Int)) ?_ ?_ hq
  · clear hq hd
    revert n
    decide +kernel
  · clear hq hd
    revert n
    decide +kernel
theorem fmt03 {prog : Program} {w : World} {A : Around} {E : Value → Shared → Prop} {s : Shared} {a : Int} {t : Tok} {Q : Value → Shared → Prop} (h0 : 0 ≤ a) (h1 : a < 200) (h : ∀ t' k, Q (.str (p3 a) t') { s with toks := k }) :
    wpAny (model prog w) A (formatField (.int a t) "03d") Q E s := by
  have e : a = (((⟨a.toNat, by omega⟩ : Fin 200).val : Nat) : Int) := by show a = (a.toNat : Int); omega
  rw [e]
  rw [e] at h
  exact KXf.field_int rfl (by decide +kernel) (by decide +kernel) (run03 _) h
end AE

set_option Elab.async false
set_option linter.all false
set_option maxRecDepth 100000
namespace AE
open PySem PySem.Spec PyProof.Rows L2 Evl
open PySem.W
open Builtin
/-- a text filled up with blanks to eight signs -/
def pad8 (x : Str) : Str := ⟨x.cps ++ Array.replicate (8 - x.length) 32⟩
set_option maxHeartbeats 4000000 in
theorem runl8 (x : Str) {t : Tok} (hx : x.length ≤ 8) : ∀ u, Meets («str.__format__» ⟨[.str x t, .str "<8" u], []⟩) (fun _ R s => ∀ t' k, R (.ok (.ret (.str (pad8 x) t'))) { s with toks := k }) := by
  intro u
  apply KPc.meets_of
  intro _ _ _ _ _ _ hq
  unfold Builtin.«str.__format__»
  refine wpAny_bind (wpAny_of_eq (a := (_, _, _)) rfl ?_)
  refine wpAny_bind (wpAny_of_eq (a := some _) rfl ?_)
  kxf_if
  kxf_if
  refine wpAny_bind (KXf.cut_str ?_)
  have hp : Float.parseFormatSpec (PySem.Str.ofString "<8").cps.toList "str" 60 = .ok { fill := 32, align := 60, width := some 8 } := by with_unfolding_all rfl
  have hs : Str.strField x { fill := 32, align := 60, width := some 8 } "str" = .ok (if 8 ≤ x.length then none else some (Str.padded (Str.strSub x 0 x.length) 0 (8 - (Str.strSub x 0 x.length).length) 32)) := by
    unfold Str.strField
    by_cases h : 8 ≤ x.length
    · simp [h]
      rfl
    · simp [h]
      rfl
  rw [hp]
  have hb : (PySem.Str.ofString "<8").cps.back? = some 56 := by decide +kernel
  have ht : Str.tooLong 8 = false := by decide +kernel
  simp only [bind, Except.bind, pure, Except.pure, hb, Option.isNone_none, Option.getD_some, ht, hs]
  simp only [show (true && (some 56 == some (0 : Nat))) = false by decide, Bool.false_eq_true, if_false, Option.getD_some, ht, hs]
  have hxl : (Str.strSub x 0 x.length) = x := by
    show (⟨x.cps.extract 0 x.cps.size⟩ : Str) = x
    rw [Array.extract_size]
  by_cases h : 8 ≤ x.length
  · rw [if_pos h]
    have e : x = pad8 x := by
      show x = ⟨x.cps ++ Array.replicate (8 - x.length) 32⟩
      rw [Nat.sub_eq_zero_of_le h]
      show x = ⟨x.cps ++ #[]⟩
      rw [Array.append_empty]
    exact wpAny_bind (wpAny_rule (KXf.ret_same e hq))
  · rw [if_neg h, hxl]
    refine KXf.ret_text ?_ ?_ hq
    · show (⟨Array.replicate 0 32 ++ x.cps ++ Array.replicate (8 - x.length) 32⟩ : Str) = ⟨x.cps ++ Array.replicate (8 - x.length) 32⟩
      rw [show (Array.replicate 0 32 : Array Nat) = #[] from rfl, Array.empty_append]
    · show (Array.replicate 0 32 ++ x.cps ++ Array.replicate (8 - x.length) 32).size ≤ sizeLine
      rw [Array.size_append, Array.size_append, Array.size_replicate, Array.size_replicate]
      have h2 : x.cps.size ≤ 8 := hx
      exact sz_of (by omega)
theorem fmtl8 {prog : Program} {w : World} {A : Around} {E : Value → Shared → Prop} {s : Shared} {x : Str} {t : Tok} {Q : Value → Shared → Prop} (hx : x.length ≤ 8) (h : ∀ t' k, Q (.str (pad8 x) t') { s with toks := k }) :
    wpAny (model prog w) A (formatField (.str x t) "<8") Q E s :=
  KXf.field_str rfl rfl (by decide +kernel) (by decide +kernel) (runl8 x hx) h
/-! the f-string's parts -/
section
variable {X : Cx}
def tF03 (te : TE) : TE := fun σ H Q => te σ H fun x H1 => ∃ i : Int, x = .int i ∧ 0 ≤ i ∧ i < 200 ∧ Q (.str (p3 i)) H1
def tFl8 (te : TE) : TE := fun σ H Q => te σ H fun x H1 => ∃ y : Str, x = .str y ∧ y.length ≤ 8 ∧ Q (.str (pad8 y)) H1
theorem pe_fmtS_03d {e : Expr} {te : TE} {pos p2 p3' : Pos} {j : Nat} (he : PE X e te) : PE X (.FormattedValue e (-1) (some (.JoinedStr [.Constant (.str "03d") j p2] p3')) pos) (tF03 te) := by
  refine ⟨fun pins s σ H Q I h => wpAny_FormattedValue_spec (thn (he.run pins s σ H _ I h) fun v s1 hv => ?_)⟩
  obtain ⟨x, H1, I1, r1, i, rfl, h0, h1, q⟩ := hv
  obtain ⟨t, rfl⟩ := r1
  refine wpAny_JoinedStr_one (Calls.Constant_str ⟨_, _, rfl, fmt03 h0 h1 fun t' k => ⟨.str (p3 i), H1, I1.tok _, ⟨_, rfl⟩, q⟩⟩)
theorem pe_fmtS_l8 {e : Expr} {te : TE} {pos p2 p3' : Pos} {j : Nat} (he : PE X e te) : PE X (.FormattedValue e (-1) (some (.JoinedStr [.Constant (.str "<8") j p2] p3')) pos) (tFl8 te) := by
  refine ⟨fun pins s σ H Q I h => wpAny_FormattedValue_spec (thn (he.run pins s σ H _ I h) fun v s1 hv => ?_)⟩
  obtain ⟨x, H1, I1, r1, y, rfl, h0, q⟩ := hv
  obtain ⟨t, rfl⟩ := r1
  refine wpAny_JoinedStr_one (Calls.Constant_str ⟨_, _, rfl, fmtl8 h0 fun t' k => ⟨.str (pad8 y), H1, I1.tok _, ⟨_, rfl⟩, q⟩⟩)
end
end AE

set_option Elab.async false
set_option linter.all false
set_option maxRecDepth 100000
set_option maxHeartbeats 2000000
namespace AE
open PySem PySem.Spec PyProof.Rows L2 Evl
section
variable {X : Cx} {pins : List (Addr × Obj)} {σ : L2.St} {H : Hp} {s : Shared}
/-- a store into a dict with tuple keys, as a comprehension makes it -/
theorem put_t {D b : Addr} {kvs : List (List Key × V)} {ks : List Key} {v : V} {r : Value} {Q : Unit → Shared → Prop} {Er : Value → Shared → Prop} {A : Around} (hu : A.units < cLine) (I : Inv X pins σ H s) (hD : H D = some (.dT kvs)) (hb : H b = some (.tup (ks.map kV))) (hl : kvs.length < sizeLine)
    (rv : RelV v r) (h : ∀ s1, Inv X pins σ (upd H D (.dT (putK kvs ks v))) s1 → Q () s1) : wpAny (model X.prog X.w) A (dictSet D (.ref b) r) Q Er s := by
  obtain ⟨_, hd, xs, rel, dd⟩ := dt_of I.hok hD
  have hx : xs.length ≤ sizeLine := by
    have e := Paired.length rel
    omega
  have hz : (putK kvs ks v).length ≤ sizeLine := Nat.le_trans (length_putK kvs ks v) (by omega)
  refine wpAny_dictSet_heap (knd := tupleKind (mixKind X.prog X.w)) (hsz := hx) hu (key_of I.hok hb) dd fun h1 dd1 hs => h _ ?_
  obtain ⟨q, es, ep, hq, k2, k3, k4, _, k5⟩ := dd1
  exact d_write I (by rw [hD]; trivial) hs ⟨q, hq⟩ ⟨hz, hd, _, (rel.put ks hb rv).keeps fun c ys ec => by rw [upd_ne (ne_of ec hD (by intro z; cases z))]; exact ec, q, es, ep, hq, k2, k3, k4, k5⟩
/-- the stores of a comprehension whose keys are tuples -/
def sT (D : Addr) : V → V → Hp → (Hp → Prop) → Prop := fun y z H R => ∃ (kvs : List (List Key × V)) (ks : List Key) (b : Addr), y = .ref b ∧ H b = some (.tup (ks.map kV)) ∧ H D = some (.dT kvs) ∧ kvs.length < sizeLine ∧ R (upd H D (.dT (putK kvs ks z)))
def tDcT (wi : TI) (g : TG) (tt : TT) (tk tv : TE) (vs : List Nat) : TE := fun σ H Q => wi σ H fun J Ha => ∀ D, Ha D = none → ∃ W : Nat → Nat → Hp → Prop, (∃ m, W 0 m (upd Ha D (.dT []))) ∧ ∀ i m Hb, W i m Hb →
  (J.stop i Hb ∧ Q (.ref D) Hb) ∨ (J.go i Hb ∧ ∃ Nx : Hp → Prop, (∀ Hc, Nx Hc → ∃ m1, m1 < m ∧ W (i + 1) m1 Hc) ∧ ∀ x Hc, J.yld i Hb x Hc → g x (wipe σ vs) Hc fun σa Hd => wipe σa vs = wipe σ vs ∧ tt σa Hd fun b He =>
    if b = true then tk σa He fun y Hf => tv σa Hf fun z Hg => sT D y z Hg Nx else Nx He)
theorem pe_dcT {kx vx tg iter : Expr} {ifs : List Expr} {scope : Scope} {own : List (Str × Nat)} {pos : Pos} {wi : TI} {g : TG} {tt : TT} {tk tv : TE} (hu : X.A.units < cLine) (hc : X.calm = true) (hN : X.N.Nodup) (hi : PI X tg iter wi) (ok : BlkOk X.N X.env.scope scope own)
    (hg : ∀ s0 H0 C cl fp, PG (X.blk s0 H0 scope (compEnvC scope cl C X.env) fp) tg g) (ht : ∀ s0 H0 C cl fp, PTs (X.blk s0 H0 scope (compEnvC scope cl C X.env) fp) ifs tt)
    (hk : ∀ s0 H0 C cl fp, PE (X.blk s0 H0 scope (compEnvC scope cl C X.env) fp) kx tk) (he : ∀ s0 H0 C cl fp, PE (X.blk s0 H0 scope (compEnvC scope cl C X.env) fp) vx tv)
    (hs : ∀ x, foldedSetIterable iter X.env x = pure x := by intro _; rfl) : PE X (.DictComp kx vx [⟨tg, iter, ifs, 0⟩] scope pos) (tDcT wi g tt tk tv (own.map (·.2))) := by
  refine ⟨fun pins s σ H Q I h => ?_⟩
  rw [arm_eval_DictComp]
  have free : ∀ y ∈ scope.names, y.2 = .free → ∃ c, X.env.cells.lookup y.1 = some c := fun y hy e => by
    rcases ok.free y hy e with z | z
    · exact I.ok.has _ (.inl z)
    · exact I.ok.has _ (.inr z)
  refine wpAny_comprehension_free (use := none) rfl hs (closure_ok free) ok.kind (fun y hy e => by rw [ok.uniq y hy, e]) (thn (hi.run pins s σ H _ I h) fun xv sa hx => thn hx fun itv sb hb => ?_)
  obtain ⟨it, fp, tn, J, Hb, e, Ib, T, stb, fb, q⟩ := hb
  subst e
  refine wpAny_newObj_type (newEnv_comp ?_)
  generalize hDe : sb.heap.objs.size = D
  obtain ⟨W, ⟨m0, w0⟩, turn⟩ := q D (Ib.hok.fresh (Nat.le_of_eq hDe))
  generalize hsc : ({ sb with heap := sb.heap.push { cls := .type "dict", data := .dict #[] } } : Shared) = sc
  have hsc' : sc.heap = sb.heap.push { cls := .type "dict", data := .dict #[] } := by rw [← hsc]
  have Ic : Inv X pins σ (upd Hb D (.dT [])) sc := by
    rw [← hsc]
    refine Ib.laid (t' := sb.toks) (fun _ _ e => Heap.get?_push_of_some _ e) (Nat.le_of_eq hDe) ?_
    rw [← hDe]
    exact dt_empty sb.heap Ib.big
  have old : ∀ b ∈ fp, b < sb.heap.objs.size := fun b hb => by
    obtain ⟨_, z, _⟩ := T.obj _ _ stb b hb
    exact Heap.lt_size z
  have fc : ∀ b ∈ fp, FpOk X pins (upd Hb D (.dT [])) b ∧ b < sc.heap.objs.size := fun b hb => by
    have z := old b hb
    refine ⟨⟨by rw [upd_ne (by rw [← hDe]; exact Nat.ne_of_lt z)]; exact (fb b hb).1, (fb b hb).2⟩, ?_⟩
    rw [hsc', Heap.size_push]
    exact Nat.lt_succ_of_lt z
  have stc : tn 0 sc.heap := T.keep _ _ _ stb fun b _ o e => by rw [hsc']; exact Heap.get?_push_of_some _ e
  have Id := block_start Ic ok hN fc
  have pg := hg sc (upd Hb D (.dT [])) sc.heap.objs.size (cellsFrom (sc.heap.objs.size + 1) scope.names (cloFrom X.env.cells scope.names [])) fp
  have pt := ht sc (upd Hb D (.dT [])) sc.heap.objs.size (cellsFrom (sc.heap.objs.size + 1) scope.names (cloFrom X.env.cells scope.names [])) fp
  have pk := hk sc (upd Hb D (.dT [])) sc.heap.objs.size (cellsFrom (sc.heap.objs.size + 1) scope.names (cloFrom X.env.cells scope.names [])) fp
  have pv := he sc (upd Hb D (.dT [])) sc.heap.objs.size (cellsFrom (sc.heap.objs.size + 1) scope.names (cloFrom X.env.cells scope.names [])) fp
  show codeAny _ _ (.compStart (.DictComp kx vx [⟨tg, iter, ifs, 0⟩] scope pos) 0 (.ref it) (.ref D) (compEnvC scope (cellsFrom (sc.heap.objs.size + 1) scope.names (cloFrom X.env.cells scope.names [])) sc.heap.objs.size X.env)) _ { sc with heap := pushCells (sc.heap.push { cls := .type "dict", data := .dict #[] }) scope.names }
  have nfp : ∀ b ∈ fp, (upd Hb D (.dT [])) b = none := fun b hb => (fc b hb).1.1
  generalize hce : compEnvC scope (cellsFrom (sc.heap.objs.size + 1) scope.names (cloFrom X.env.cells scope.names [])) sc.heap.objs.size X.env = ce at Id pg pt pk pv ⊢
  have cL : ce.locals = sc.heap.objs.size := by subst hce; rfl
  generalize hHc : upd Hb D (.dT []) = Hc at Ic Id pg pt pk pv w0 nfp fc
  generalize hsd : ({ sc with heap := pushCells (sc.heap.push { cls := .type "dict", data := .dict #[] }) scope.names } : Shared) = sd at Id ⊢
  have std : tn 0 sd.heap := T.keep _ _ _ stc fun b _ o e => by rw [← hsd]; exact pushCells_keeps _ _ _ _ (Heap.get?_push_of_some _ e)
  have stat : ∀ {σ1 : L2.St} {H1 : Hp} {s1 : Shared}, Inv (X.blk sc Hc scope ce fp) [] σ1 H1 s1 → (∀ b ∈ fp, H1 b = none) → ∀ b ∈ fp, FpOk (X.blk sc Hc scope ce fp) [] H1 b := fun {σ1 H1 s1} J1 nn b hb =>
    ⟨nn b hb, (J1.ok.exf b hb).1, J1.ok.exfs b hb, .inl hb, fun x c e => (J1.ok.exf b hb).2 x c e, fun p hp => absurd (show p ∈ ([] : List (Addr × Obj)) ++ [] from hp) (by simp)⟩
  refine codeAny_compStart_dict ?_ (T.self X.A 0 _ _ _ std ?_)
  all_goals
    refine compLoop_anyD (fun n s1 => ∃ i H1, Inv (X.blk sc Hc scope ce fp) [] (wipe σ (own.map (·.2))) H1 s1 ∧ tn i s1.heap ∧ (∀ b ∈ fp, H1 b = none) ∧ W i n H1) ?_ m0 ⟨0, Hc, Id, std, nfp, w0⟩
    rintro n s5 ⟨i, H5, I5, st5, n5, w5⟩
    rcases turn i n H5 w5 with ⟨stop, fine⟩ | ⟨go, Nx, less, step⟩
    · refine thnF (T.done (X.blk sc Hc scope ce fp) rfl rfl rfl hc i [] s5 _ H5 (fun _ _ => False) I5 (stat I5 n5) st5 stop) fun r s6 ⟨hr, I6⟩ => ?_
      subst hr
      have I7 : Inv X pins σ H5 s6 := Ic.call' (ch := fp) I6.os I6.base I6.hok I6.bare fun b hb => ⟨(fc b hb).1.2.2.2.1, (fc b hb).1.2.1, (fc b hb).1.2.2.2.2.1, (fc b hb).1.2.2.2.2.2⟩
      have nC : H5 sc.heap.objs.size = none := by
        rw [← cL]
        exact I6.free
      obtain ⟨mm, hmm, _⟩ := I6.loc
      have hm2 : s6.heap.Ns ce.locals mm := hmm
      rw [cL] at hm2
      refine ⟨mm, hm2, fun h2 sb2 => ?_⟩
      obtain ⟨f0, f1, _, f3, f4, f5⟩ := Ic.fpOk (Nat.le_refl _) nC
      exact ⟨.ref D, H5, I7.turned (t' := s6.toks) (fun b o hb e => (sb2.2 b hb).trans e) f0 f1 f3 f4 f5, rfl, fine⟩
    · refine thnF (T.item (X.blk sc Hc scope ce fp) rfl rfl rfl hc i [] s5 _ H5 (fun _ _ => False) I5 (stat I5 n5) st5 go) fun r s6 ⟨u, hr, more⟩ => ?_
      subst hr
      refine thnF more fun _ s7 ⟨x, H7, I7, rx, yx, st7, n7⟩ => ?_
      refine thnF (pg.run _ s7 _ H7 x u _ (I7.pinned (stat I7 n7) (T.obj _ _ st7)) rx (step x H7 yx)) fun _ s8 ⟨σ8, H8, I8, hw, q8⟩ => ?_
      have back : ∀ {s1 : Shared} {H1 : Hp}, Inv (X.blk sc Hc scope ce fp) ([] ++ pinsAt fp s7.heap) σ8 H1 s1 → Nx H1 → ∃ m, m < n ∧ ∃ i H1, Inv (X.blk sc Hc scope ce fp) [] (wipe σ (own.map (·.2))) H1 s1 ∧ tn i s1.heap ∧ (∀ b ∈ fp, H1 b = none) ∧ W i m H1 := fun {s1 H1} J1 nx => by
        obtain ⟨m1, l1, w1⟩ := less H1 nx
        have keep : ∀ b ∈ fp, ∀ o, s7.heap.get? b = some o → s1.heap.get? b = some o ∧ H1 b = none := fun b hb o e => by
          have z := J1.pin (b, o) (List.mem_append_right _ (List.mem_append_right _ (mem_pinsAt hb e)))
          exact ⟨z.1, z.2.1⟩
        refine ⟨m1, l1, i + 1, H1, (J1.unpinned (pins := [])).weak (by rw [← hw, wipe_length]) (fun j v e => ?_), T.keep _ _ _ st7 fun b hb o e => (keep b hb o e).1, fun b hb => ?_, w1⟩
        · rw [← hw] at e
          exact (wipe_some e).1
        · obtain ⟨o, e, _⟩ := T.obj _ _ st7 b hb
          exact (keep b hb o e).2
      refine thnF (pt.run _ s8 σ8 H8 _ I8 q8) fun b s9 ⟨H9, I9, q9⟩ => ?_
      cases b
      · simp only [Bool.false_eq_true, if_false] at q9 ⊢
        exact back I9 q9
      · simp only [if_true] at q9 ⊢
        refine thnF (pk.run _ s9 σ8 H9 _ I9 q9) fun z s10 ⟨yk, H10, I10, rk, q10⟩ => ?_
        refine thnF (pv.run _ s10 σ8 H10 _ I10 q10) fun z2 s11 ⟨yv, H11, I11, rz, kvs, ks, kb, ek, eb, eD, l11, nx⟩ => ?_
        subst ek
        cases rk
        exact put_t (X := X.blk sc Hc scope ce fp) hu I11 eD eb l11 rz fun s12 I12 => back I12 nx
end
end AE

set_option Elab.async false
set_option linter.all false
set_option maxRecDepth 100000
set_option maxHeartbeats 2000000
namespace AE
open PySem PySem.Spec PyProof.Rows L2 Evl
section
variable {X : Cx} {pins : List (Addr × Obj)} {σ : L2.St} {H : Hp} {s : Shared}
theorem setd_t {D b : Addr} {kvs : List (List Key × V)} {ks : List Key} {v : V} {r : Value} {Q : Value → Shared → Prop} {Er : Value → Shared → Prop} {A : Around} (hu : A.units + 1 < cLine) (I : Inv X pins σ H s) (hD : H D = some (.dT kvs)) (hb : H b = some (.tup (ks.map kV))) (hl : kvs.length < sizeLine)
    (rv : RelV v r) (h1 : ∀ x, valV kvs ks = some x → ∀ w1 s1, Inv X pins σ H s1 → RelV x w1 → Q w1 s1) (h2 : valV kvs ks = none → ∀ s1, Inv X pins σ (upd H D (.dT (putK kvs ks v))) s1 → Q r s1) :
    wpAny (model X.prog X.w) A (call (.builtin "dict.setdefault") [.ref D, .ref b, r]) Q Er s := by
  obtain ⟨_, hd, xs, rel, dd⟩ := dt_of I.hok hD
  have hx : xs.length ≤ sizeLine := by
    have e := Paired.length rel
    omega
  have hz : (putK kvs ks v).length ≤ sizeLine := Nat.le_trans (length_putK kvs ks v) (by omega)
  refine call_setdefault_heap (knd := tupleKind (mixKind X.prog X.w)) (hsz := hx) (tupleKind_room_in1 hu) (key_of I.hok hb) hd dd (fun p hp => ?_) fun hn h' dd1 hs => ?_
  · have q := rel.val ks
    rw [hp] at q
    cases q0 : valV kvs ks with
    | none => rw [q0] at q; exact q.elim
    | some x => rw [q0] at q; exact h1 x q0 _ _ (I.tok _) q
  · have q := rel.val ks
    rw [hn] at q
    cases q0 : valV kvs ks with
    | some x => rw [q0] at q; exact q.elim
    | none =>
      refine h2 q0 _ ?_
      obtain ⟨q, es, ep, hq, k2, k3, k4, _, k5⟩ := dd1
      exact d_write I (by rw [hD]; trivial) hs ⟨q, hq⟩ ⟨hz, hd, _, (rel.put ks hb rv).keeps fun c ys ec => by rw [upd_ne (ne_of ec hD (by intro z; cases z))]; exact ec, q, es, ep, hq, k2, k3, k4, k5⟩
end
def tSetdT (td ty tx : TE) : TE := fun σ H Q => td σ H fun x Ha => ∃ a, x = .ref a ∧ IsD Ha a ∧ ty σ Ha fun y Hb => tx σ Hb fun z Hc => ∃ (kvs : List (List Key × V)) (k : List Key) (b : Addr), Hc a = some (.dT kvs) ∧ y = .ref b ∧ Hc b = some (.tup (k.map kV)) ∧ kvs.length < sizeLine ∧
  (∀ v, valV kvs k = some v → Q v Hc) ∧ (valV kvs k = none → Q z (upd Hc a (.dT (putK kvs k z))))
section
variable {X : Cx} {o e f : Expr} {td ty tx : TE} {apos cpos : Pos}
theorem pe_setdT (hu : X.A.units + 1 < cLine) (ho : PE X o td) (he : PE X e ty) (hf : PE X f tx) (m : M2 X o "setdefault" apos e f cpos) : PE X (.Call (.Attribute o "setdefault" apos) [e, f] [] cpos) (tSetdT td ty tx) := by
  refine ⟨fun pins s σ H Q I h => ?_⟩
  refine wpAny_Call_method m.base m.few m.line PySem.F.plainAttrs_dict PySem.F.slot_dict_setdefault PySem.F.type_dict_setdefault (thn (ho.run pins s σ H _ I h) fun u sa ⟨x, Ha, Ia, rx, a, ex, d, q1⟩ => ?_)
  subst ex
  cases rx
  obtain ⟨t1, t2, _⟩ := isD_at Ia d
  refine ⟨t1, t2, ?_⟩
  rw [m.trees]
  refine Calls.callWith_builtin rfl (Calls.evalArgs_plain (Calls.spliced_cons (thn (he.run pins sa σ Ha _ Ia q1) fun iv sb ⟨y, Hb, Ib, ry, q2⟩ => Calls.spliced_cons (thn (hf.run pins sb σ Hb _ Ib q2) fun fv sc hc => Calls.spliced_nil ?_))))
  obtain ⟨z, Hc, Ic, rz, kvs, k, b, ea, ey, eb, hl, q3, q4⟩ := hc
  subst ey
  cases ry
  exact setd_t hu Ic ea eb hl rz (fun v hv w1 s1 I1 r1 => ⟨v, _, I1, r1, q3 v hv⟩) fun hn s1 I1 => ⟨z, _, I1, rz, q4 hn⟩
end
/-! sorted texts of any number -/
section
variable {X : Cx}
def rSortA (K : PySem.W.Frag) : List V → Hp → VK → Prop := fun vs H Q => ∃ (a : Addr) (xs : List Str), vs = [V.ref a] ∧ SqL K H a (xs.map V.str) ∧ xs.length ≤ sizeLine ∧
  ∀ (ys : List Str) (p : Addr), ys.Perm xs → sortedS ys = true → H p = none → Q (.ref p) (upd H p (.lst (ys.map V.str)))
theorem c_sorted : CallR X (.builtin "sorted") (rSortA X.K) := by
  rintro pins s σ H vs us Q I r ⟨a, xs, rfl, hs, hz, q⟩
  obtain ⟨its, rv, hl, _⟩ := I.list hs
  rw [Vals.ref1 r]
  have n0 := rv.length
  rw [List.length_map] at n0
  refine sorted_strsAny hl.isList rv.strs (by omega) fun out ys g1 g2 g3 => ?_
  obtain ⟨ep, hat⟩ := PyProof.Rows.sortedAll_at s.heap its out
  have nz : (ys.map V.str).length ≤ sizeLine := by
    rw [List.length_map, g2.length_eq]
    exact hz
  refine ⟨.ref _, upd H (s.heap.objs.size + 1) (.lst (ys.map V.str)), ?_, rfl, q ys _ g2 g3 (I.hok.fresh (Nat.le_succ _))⟩
  exact I.laid (t' := s.toks) (fun _ _ => PyProof.Rows.sortedAll_old) (Nat.le_succ _) ⟨nz, out.toList, ep, vals_of_strs g1, hat⟩
def rStr : List V → Hp → VK → Prop := fun xs H Q => ∃ a, xs = [.str a] ∧ Q (.str a) H
theorem c_str : CallR X (.type "str") rStr := SkE.call_str_str
end
end AE

set_option Elab.async false
set_option linter.all false
set_option maxRecDepth 100000
namespace AE
open PySem PySem.Spec PyProof.Rows L2 Evl
/-! ### steps and their order -/
abbrev StepD := Int × Str × Int
def stepV (s : StepD) : List V := [.int s.1, .str s.2.1, .int s.2.2]
theorem stepV_sc (s : StepD) : (stepV s).all isSc = true := rfl
def ltS (a b : StepD) : Prop := a.1 < b.1 ∨ (a.1 = b.1 ∧ (a.2.1.cps.toList < b.2.1.cps.toList ∨ (a.2.1 = b.2.1 ∧ a.2.2 < b.2.2)))
structure OkS (n : Int) (s : StepD) : Prop where
  s0 : 0 ≤ s.1
  s1 : s.1 < n
  a0 : 1 ≤ s.2.1.length
  a1 : s.2.1.length ≤ 8
  al : ∀ c ∈ s.2.1.cps.toList, 97 ≤ c ∧ c ≤ 122
  e0 : 0 ≤ s.2.2
  e1 : s.2.2 < n
def keyS (s : StepD) : Str := ((Str.empty ++ p3 s.1) ++ pad8 s.2.1) ++ p3 s.2.2
theorem lex_app {a b x y : List Nat} (h : a < b) (l : a.length = b.length) : a ++ x < b ++ y := by
  induction a generalizing b with
  | nil =>
    cases b with
    | nil => exact absurd h (by simp)
    | cons _ _ => cases l
  | cons p r ih =>
    cases b with
    | nil => cases l
    | cons q t =>
      rw [List.cons_append, List.cons_append, List.cons_lt_cons_iff]
      rw [List.cons_lt_cons_iff] at h
      rcases h with h | ⟨h, k⟩
      · exact .inl h
      · exact .inr ⟨h, ih k (by simpa using l)⟩
theorem lex_pre {a x y : List Nat} (h : x < y) : a ++ x < a ++ y := by
  induction a with
  | nil => exact h
  | cons p r ih =>
    rw [List.cons_append, List.cons_append, List.cons_lt_cons_iff]
    exact .inr ⟨rfl, ih⟩
def d3 (a : Int) : List Nat := [48 + (a / 100).toNat, 48 + (a / 10 % 10).toNat, 48 + (a % 10).toNat]
def padL (x : Str) : List Nat := x.cps.toList ++ List.replicate (8 - x.length) 32
theorem key_list (s : StepD) : (keyS s).cps.toList = d3 s.1 ++ (padL s.2.1 ++ d3 s.2.2) := by
  unfold keyS
  rw [Str.cps_append, Str.cps_append, Str.cps_append]
  simp [Str.empty, p3, pad8, d3, padL]
theorem d3_lt {a b : Int} (h0 : 0 ≤ a) (h1 : b < 1000) (h : a < b) : d3 a < d3 b := by
  unfold d3
  rw [List.cons_lt_cons_iff, List.cons_lt_cons_iff, List.cons_lt_cons_iff]
  by_cases h2 : a / 100 < b / 100
  · exact .inl (by omega)
  · refine .inr ⟨by omega, ?_⟩
    by_cases h3 : a / 10 % 10 < b / 10 % 10
    · exact .inl (by omega)
    · exact .inr ⟨by omega, .inl (by omega)⟩
theorem pad_lt {x y : List Nat} (hx : ∀ c ∈ x, 97 ≤ c) (hy : ∀ c ∈ y, 97 ≤ c) (lx : x.length ≤ 8) (ly : y.length ≤ 8) (h : x < y) : x ++ List.replicate (8 - x.length) 32 < y ++ List.replicate (8 - y.length) 32 := by
  generalize 8 = m at lx ly
  induction x generalizing y m with
  | nil =>
    cases y with
    | nil => exact absurd h (by simp)
    | cons q t =>
      cases m with
      | zero => cases ly
      | succ m =>
        show List.replicate (m + 1) 32 < q :: (t ++ _)
        rw [List.replicate_succ, List.cons_lt_cons_iff]
        have := hy q (List.mem_cons_self ..)
        exact .inl (by omega)
  | cons p r ih =>
    cases y with
    | nil => exact absurd h (by simp)
    | cons q t =>
      rw [List.cons_lt_cons_iff] at h
      rw [List.cons_append, List.cons_append, List.cons_lt_cons_iff]
      rcases h with h | ⟨h, k⟩
      · exact .inl h
      · refine .inr ⟨h, ?_⟩
        cases m with
        | zero => cases ly
        | succ m =>
          have e := ih (y := t) (fun c hc => hx c (List.mem_cons_of_mem _ hc)) (fun c hc => hy c (List.mem_cons_of_mem _ hc)) k m (by simpa using lx) (by simpa using ly)
          rw [List.length_cons, List.length_cons, Nat.add_sub_add_right, Nat.add_sub_add_right]
          exact e
theorem key_lt {n : Int} (hn : n ≤ 200) {a b : StepD} (oa : OkS n a) (ob : OkS n b) (h : ltS a b) : (keyS a).cps.toList < (keyS b).cps.toList := by
  rw [key_list, key_list]
  have := oa.s1; have := ob.s1; have := oa.e1; have := ob.e1
  rcases h with h | ⟨e, h | ⟨e2, h⟩⟩
  · exact lex_app (d3_lt oa.s0 (by omega) h) rfl
  · rw [e]
    refine lex_pre (lex_app (pad_lt (fun c hc => (oa.al c hc).1) (fun c hc => (ob.al c hc).1) oa.a1 ob.a1 h) ?_)
    have la := oa.a1
    have lb := ob.a1
    have ea : a.2.1.cps.toList.length = a.2.1.length := rfl
    have eb : b.2.1.cps.toList.length = b.2.1.length := rfl
    unfold padL
    rw [List.length_append, List.length_append, List.length_replicate, List.length_replicate, ea, eb]
    omega
  · rw [e, e2]
    exact lex_pre (lex_pre (d3_lt oa.e0 (by omega) h))
theorem ltS_irrefl (a : StepD) : ¬ ltS a a := by
  rintro (h | ⟨_, h | ⟨_, h⟩⟩)
  · exact absurd h (by omega)
  · exact List.lt_irrefl _ h
  · exact absurd h (by omega)
theorem ltS_trans {a b c : StepD} (h : ltS a b) (k : ltS b c) : ltS a c := by
  rcases h with h | ⟨e, h | ⟨e2, h⟩⟩
  · rcases k with k | ⟨f, k⟩
    · exact .inl (by omega)
    · exact .inl (by omega)
  · rcases k with k | ⟨f, k | ⟨f2, k⟩⟩
    · exact .inl (by omega)
    · exact .inr ⟨by omega, .inl (List.lt_trans h k)⟩
    · exact .inr ⟨by omega, .inl (by rw [← f2]; exact h)⟩
  · rcases k with k | ⟨f, k | ⟨f2, k⟩⟩
    · exact .inl (by omega)
    · exact .inr ⟨by omega, .inl (by rw [e2]; exact k)⟩
    · exact .inr ⟨by omega, .inr ⟨e2.trans f2, by omega⟩⟩
theorem ltS_tri (a b : StepD) : ltS a b ∨ a = b ∨ ltS b a := by
  rcases Int.lt_trichotomy a.1 b.1 with h | h | h
  · exact .inl (.inl h)
  · by_cases h2 : a.2.1.cps.toList < b.2.1.cps.toList
    · exact .inl (.inr ⟨h, .inl h2⟩)
    · by_cases h3 : b.2.1.cps.toList < a.2.1.cps.toList
      · exact .inr (.inr (.inr ⟨h.symm, .inl h3⟩))
      · have e : a.2.1.cps.toList = b.2.1.cps.toList := List.le_antisymm (List.not_lt.mp h3) (List.not_lt.mp h2)
        have e2 : a.2.1 = b.2.1 := Str.ext' (Array.toList_inj.mp e)
        rcases Int.lt_trichotomy a.2.2 b.2.2 with h4 | h4 | h4
        · exact .inl (.inr ⟨h, .inr ⟨e2, h4⟩⟩)
        · exact .inr (.inl (by
            obtain ⟨x, y, z⟩ := a
            obtain ⟨x', y', z'⟩ := b
            simp only at h e2 h4
            rw [h, e2, h4]))
        · exact .inr (.inr (.inr ⟨h.symm, .inr ⟨e2.symm, h4⟩⟩))
  · exact .inr (.inr (.inl h))
theorem key_inj {n : Int} (hn : n ≤ 200) {a b : StepD} (oa : OkS n a) (ob : OkS n b) (h : keyS a = keyS b) : a = b := by
  rcases ltS_tri a b with k | k | k
  · exact absurd (key_lt hn oa ob k) (by rw [h]; exact List.lt_irrefl _)
  · exact k
  · exact absurd (key_lt hn ob oa k) (by rw [h]; exact List.lt_irrefl _)
/-- two rising rows of the same steps are one -/
theorem rows_eq : ∀ {xs ys : List StepD}, xs.Pairwise ltS → ys.Pairwise ltS → (∀ s, s ∈ xs ↔ s ∈ ys) → xs = ys
  | [], [], _, _, _ => rfl
  | [], y :: ys, _, _, h => absurd ((h y).mpr (List.mem_cons_self ..)) (by simp)
  | x :: xs, [], _, _, h => absurd ((h x).mp (List.mem_cons_self ..)) (by simp)
  | x :: xs, y :: ys, hx, hy, h => by
    rw [List.pairwise_cons] at hx hy
    have e : x = y := by
      rcases List.mem_cons.mp ((h x).mp (List.mem_cons_self ..)) with e | m
      · exact e
      · rcases List.mem_cons.mp ((h y).mpr (List.mem_cons_self ..)) with e | m2
        · exact e.symm
        · exact absurd (ltS_trans (hx.1 y m2) (hy.1 x m)) (ltS_irrefl _)
    subst e
    rw [rows_eq hx.2 hy.2 fun s => ⟨fun m => ?_, fun m => ?_⟩]
    · rcases List.mem_cons.mp ((h s).mp (List.mem_cons_of_mem _ m)) with e | m2
      · subst e
        exact absurd (hx.1 s m) (ltS_irrefl _)
      · exact m2
    · rcases List.mem_cons.mp ((h s).mpr (List.mem_cons_of_mem _ m)) with e | m2
      · subst e
        exact absurd (hy.1 s m) (ltS_irrefl _)
      · exact m2
end AE

set_option Elab.async false
set_option linter.all false
set_option maxRecDepth 100000
namespace AE
open PySem PySem.Spec PyProof.Rows L2 Evl
section
variable {X : Cx}
theorem pe_gi {x : Str} {i : Int} {t : Tok} {pos : Pos} (hg : Gl X x) (hm : X.mg x = some (.int i t)) (hd : (x == ("__debug__" : Str)) = false := by decide) : PE X (.Name x pos) (tC (.int i)) := pe_glob hg hm ⟨t, rfl⟩ hd
def SqA (K : PySem.W.Frag) (H : Hp) (a : Addr) (xs : List V) : Prop := SqL K H a xs ∨ SqT K H a xs
theorem SqA.ex {K : PySem.W.Frag} {H H' : Hp} {a : Addr} {xs : List V} (e : Ex H H') (h : SqA K H a xs) : SqA K H' a xs := h.imp (ex_l e) (ex_t e)
def iSeq (K : PySem.W.Frag) (te : TE) : TI := fun σ H R => iList K te σ H R ∨ iTup K te σ H R
theorem pi_seq {tg l : Expr} {tl : TE} (h : PE X l tl) : PI X tg l (iSeq X.K tl) := by
  refine ⟨fun pins s σ H R I q => ?_⟩
  rcases q with q | q
  · exact (pi_list h).run pins s σ H R I q
  · exact (pi_tup h).run pins s σ H R I q
end
section
variable {K : PySem.W.Frag} {σ : L2.St} {H : Hp} {Q : VK} {D : Ends} {te tk tv : TE} {t : TT} {tz : TS} {g : TG} {i : Nat} {a : Addr} {xs : List V}
/-- a for over the list or tuple in slot i -/
theorem for_seq (h0 : σ[i]? = some (some (.ref a))) (hx : SqA K H a xs) (Pv : Nat → L2.St → Hp → Prop) (hP : Pv 0 σ H) (hl : ∀ j σ' H', j ≤ xs.length → Pv j σ' H' → Ex H H')
    (hs : ∀ j x σ' H', xs[j]? = some x → Pv j σ' H' → g x σ' H' fun σ2 H2 => tz { D with nx := Pv (j + 1), ct := Pv (j + 1), bk := D.nx } σ2 H2)
    (hd : ∀ σ' H', Pv xs.length σ' H' → D.nx σ' H') : tFor (iSeq K (tVar i)) g tz D σ H := by
  rcases hx with hx | hx
  · exact .inl ⟨_, h0, a, rfl, ⟨xs, hx⟩, for_list Pv hP (fun j σ' H' hj p => ex_l (hl j σ' H' hj p) hx) hs hd⟩
  · exact .inr ⟨_, h0, a, rfl, ⟨xs, hx⟩, for_tup Pv hP (fun j σ' H' hj p => ex_t (hl j σ' H' hj p) hx) hs hd⟩
theorem for_t (h0 : σ[i]? = some (some (.ref a))) (hx : SqT K H a xs) (Pv : Nat → L2.St → Hp → Prop) (hP : Pv 0 σ H) (hl : ∀ j σ' H', j ≤ xs.length → Pv j σ' H' → SqT K H' a xs)
    (hs : ∀ j x σ' H', xs[j]? = some x → Pv j σ' H' → g x σ' H' fun σ2 H2 => tz { D with nx := Pv (j + 1), ct := Pv (j + 1), bk := D.nx } σ2 H2)
    (hd : ∀ σ' H', Pv xs.length σ' H' → D.nx σ' H') : tFor (iTup K (tVar i)) g tz D σ H :=
  ⟨_, h0, a, rfl, ⟨xs, hx⟩, for_tup Pv hP hl hs hd⟩
/-- the walk of a dict comprehension, keys ints or texts, over a list or tuple in slot i -/
theorem dc_seq {vs : List Nat} (h0 : σ[i]? = some (some (.ref a))) (hx : SqA K H a xs) (Pv : Addr → Nat → Hp → Prop) (hP : ∀ D, H D = none → Pv D 0 (upd H D (.dK []))) (hl : ∀ D j H', Pv D j H' → Ex H H')
    (hs : ∀ D j x H', xs[j]? = some x → Pv D j H' → g x (wipe σ vs) H' fun σ2 H2 => wipe σ2 vs = wipe σ vs ∧ t σ2 H2 fun b H3 =>
      if b = true then tk σ2 H3 fun y H4 => tv σ2 H4 fun z H5 => ∃ kvs k, y = kV k ∧ H5 D = some (.dK kvs) ∧ kvs.length < sizeLine ∧ Pv D (j + 1) (upd H5 D (.dK (putK kvs k z))) else Pv D (j + 1) H3)
    (hd : ∀ D H', Pv D xs.length H' → Q (.ref D) H') : tDc (iSeq K (tVar i)) g t tk tv vs σ H Q := by
  rcases hx with hx | hx
  · refine .inl ⟨_, h0, a, rfl, ⟨xs, hx⟩, fun D hD => ?_⟩
    refine ⟨fun j m H' => m = xs.length - j ∧ j ≤ xs.length ∧ Pv D j H', ⟨xs.length, by simp, Nat.zero_le _, hP D hD⟩, ?_⟩
    rintro j m H' ⟨rfl, hj, p⟩
    have q := ex_l (hl D j H' p) hx
    by_cases hlt : j < xs.length
    · refine .inr ⟨⟨xs, xs[j], q, by simp [hlt]⟩, Pv D (j + 1), fun H2 p2 => ⟨xs.length - (j + 1), by omega, rfl, hlt, p2⟩, fun x H2 y => ?_⟩
      obtain ⟨e, y⟩ := y
      subst e
      exact hs D j x _ (y xs q) p
    · have e : j = xs.length := by omega
      subst e
      exact .inl ⟨⟨xs, q, Nat.le_refl _⟩, hd D H' p⟩
  · exact .inr ⟨_, h0, a, rfl, ⟨xs, hx⟩, fun D hD => dc_tup (Pv D) (hP D hD) (fun j H' _ p => ex_t (hl D j H' p) hx) (hs D) (hd D)⟩
end
end AE

set_option Elab.async false
set_option linter.all false
set_option maxRecDepth 100000
namespace AE
open PySem PySem.Spec PyProof.Rows L2 Evl
section
variable {K : PySem.W.Frag} {σ : L2.St} {H : Hp} {Q : VK} {ta tb te : TE} {t : TT} {i j : Nat} {a : Addr} {xs : List V} {x y v : V} {J : It} {n : Nat} {G : Hp → Prop}
theorem r_andV (q : ta σ H fun x H1 => ∃ c, x = .bl c ∧ if c = true then tb σ H1 Q else Q (.bl false) H1) : tAndV ta tb σ H Q := q
theorem r_orV (q : ta σ H fun x H1 => ∃ c, x = .bl c ∧ if c = true then Q (.bl true) H1 else tb σ H1 Q) : tOrV ta tb σ H Q := q
theorem r_notV (q : ta σ H fun x H1 => ∃ c, x = .bl c ∧ Q (.bl (!c)) H1) : tNotV ta σ H Q := q
theorem r_ifE (q : t σ H fun c H1 => if c = true then ta σ H1 Q else tb σ H1 Q) : tIf t ta tb σ H Q := q
/-- a comprehension whose tests and items are values: what is made -/
theorem lcp {vs : List Nat} (w : Walk J n G (YAt xs)) (hn : n = xs.length) (hz : xs.length ≤ 1000000) {D : Addr} (hD : H D = none) (hG : ∀ H', Ex H H' → G H') (hw : ∀ x, wipe ((wipe σ vs).set j (some x)) vs = wipe σ vs) (p : V → Bool) (f : V → V)
    (ht : ∀ x ∈ xs, ∀ H1, Ex H H1 → ∀ R : Bool → Hp → Prop, (∀ H2, Ex H1 H2 → R (p x) H2) → t ((wipe σ vs).set j (some x)) H1 R)
    (he : ∀ x ∈ xs, p x = true → ∀ H1, Ex H H1 → ∀ R : VK, (∀ H2, Ex H1 H2 → R (f x) H2) → te ((wipe σ vs).set j (some x)) H1 R)
    {Qd : Hp → Prop} (k : ∀ H1, Ex H H1 → H1 D = some (.lst ((xs.filter p).map f)) → Qd H1) :
    ∃ W : Nat → Nat → Hp → Prop, (∃ m, W 0 m (upd H D (.lst []))) ∧ ∀ i m Ha, W i m Ha →
      (J.stop i Ha ∧ Qd Ha) ∨ (J.go i Ha ∧ ∃ Nx : Hp → Prop, (∀ Hb, Nx Hb → ∃ m', m' < m ∧ W (i + 1) m' Hb) ∧ ∀ x Hb, J.yld i Ha x Hb → gName j x (wipe σ vs) Hb fun σ2 Hc => wipe σ2 vs = wipe σ vs ∧ t σ2 Hc fun b Hd =>
        if b = true then te σ2 Hd fun y He => ∃ acc, He D = some (.lst acc) ∧ acc.length < sizeLine ∧ Nx (upd He D (.lst (acc ++ [y]))) else Nx Hd) := by
  have fl : ∀ m, ((xs.take m).filter p).length ≤ 1000000 := fun m => by
    have := List.length_filter_le p (xs.take m)
    have := List.length_take_le m xs
    have : (xs.take m).length ≤ xs.length := by rw [List.length_take]; omega
    omega
  refine lc_it w (fun m Ha => Ex H Ha ∧ Ha D = some (.lst (((xs.take m).filter p).map f))) ⟨Ex.new hD, upd_same⟩ (fun m Ha _ z => hG Ha z.1) ?_ fun Ha z => ?_
  · rintro m y Ha Hb hm ⟨e1, e2⟩ ⟨rfl, hy⟩
    have hin : y ∈ xs := List.mem_of_getElem? hy
    refine ⟨hw y, ht y hin Hb e1 _ fun Hc e3 => ?_⟩
    have tk : xs.take (m + 1) = xs.take m ++ [y] := by
      rw [List.take_add_one, hy]
      rfl
    cases hp : p y with
    | true =>
      refine ite_t rfl (he y hin hp Hc (e1.trans e3) _ fun Hd e4 => ?_)
      refine ⟨_, e4 _ _ (e3 _ _ e2), by rw [List.length_map]; exact sz_lt' (fl m), ex_upd ((e1.trans e3).trans e4) hD, ?_⟩
      rw [upd_same, tk, List.filter_append, List.filter_cons, if_pos hp, List.map_append]
      rfl
    | false =>
      refine ite_f rfl ⟨e1.trans e3, ?_⟩
      rw [e3 _ _ e2, tk, List.filter_append, List.filter_cons, if_neg (by rw [hp]; decide), List.filter_nil, List.append_nil]
  · refine k Ha z.1 ?_
    rw [z.2, hn, List.take_length]
where
  sz_lt' {n : Nat} (h : n ≤ 1000000) : n < sizeLine := Nat.lt_of_le_of_lt h (by decide)
/-- over a list that is read in slot i -/
theorem lc_l {vs : List Nat} (p : V → Bool) (f : V → V) (hv : ∀ R : VK, R (.ref a) H → ta σ H R) (hx : SqL K H a xs) (hz : xs.length ≤ 1000000) (hw : ∀ x, wipe ((wipe σ vs).set j (some x)) vs = wipe σ vs)
    (ht : ∀ x ∈ xs, ∀ H1, Ex H H1 → ∀ R : Bool → Hp → Prop, (∀ H2, Ex H1 H2 → R (p x) H2) → t ((wipe σ vs).set j (some x)) H1 R)
    (he : ∀ x ∈ xs, p x = true → ∀ H1, Ex H H1 → ∀ R : VK, (∀ H2, Ex H1 H2 → R (f x) H2) → te ((wipe σ vs).set j (some x)) H1 R)
    (k : ∀ D H1, H D = none → Ex H H1 → H1 D = some (.lst ((xs.filter p).map f)) → Q (.ref D) H1) : tLc (iList K ta) (gName j) t te vs σ H Q :=
  hv _ ⟨a, rfl, ⟨xs, hx⟩, fun D hD => lcp (walk_list (K := K) (a := a) (xs := xs)) rfl hz hD (fun _ e => ex_l e hx) hw p f ht he fun H1 e h => k D H1 hD e h⟩
theorem lc_t {vs : List Nat} (p : V → Bool) (f : V → V) (hv : ∀ R : VK, R (.ref a) H → ta σ H R) (hx : SqT K H a xs) (hz : xs.length ≤ 1000000) (hw : ∀ x, wipe ((wipe σ vs).set j (some x)) vs = wipe σ vs)
    (ht : ∀ x ∈ xs, ∀ H1, Ex H H1 → ∀ R : Bool → Hp → Prop, (∀ H2, Ex H1 H2 → R (p x) H2) → t ((wipe σ vs).set j (some x)) H1 R)
    (he : ∀ x ∈ xs, p x = true → ∀ H1, Ex H H1 → ∀ R : VK, (∀ H2, Ex H1 H2 → R (f x) H2) → te ((wipe σ vs).set j (some x)) H1 R)
    (k : ∀ D H1, H D = none → Ex H H1 → H1 D = some (.lst ((xs.filter p).map f)) → Q (.ref D) H1) : tLc (iTup K ta) (gName j) t te vs σ H Q :=
  hv _ ⟨a, rfl, ⟨xs, hx⟩, fun D hD => lcp (walk_tup (K := K) (a := a) (xs := xs)) rfl hz hD (fun _ e => ex_t e hx) hw p f ht he fun H1 e h => k D H1 hD e h⟩
def signsV (z : Str) : List V := z.cps.toList.map fun c => .str ⟨#[c]⟩
theorem lc_s {vs : List Nat} {z : Str} (p : V → Bool) (f : V → V) (hv : ∀ R : VK, R (.str z) H → ta σ H R) (hz : z.length ≤ 1000000) (hw : ∀ x, wipe ((wipe σ vs).set j (some x)) vs = wipe σ vs)
    (ht : ∀ x ∈ signsV z, ∀ H1, Ex H H1 → ∀ R : Bool → Hp → Prop, (∀ H2, Ex H1 H2 → R (p x) H2) → t ((wipe σ vs).set j (some x)) H1 R)
    (he : ∀ x ∈ signsV z, p x = true → ∀ H1, Ex H H1 → ∀ R : VK, (∀ H2, Ex H1 H2 → R (f x) H2) → te ((wipe σ vs).set j (some x)) H1 R)
    (k : ∀ D H1, H D = none → Ex H H1 → H1 D = some (.lst (((signsV z).filter p).map f)) → Q (.ref D) H1) : tLc (iStr ta) (gName j) t te vs σ H Q := by
  have ln : (signsV z).length = z.cps.size := by unfold signsV; rw [List.length_map, Array.length_toList]
  refine hv _ ⟨z, rfl, fun D hD => lcp (xs := signsV z) (walk_str.mono (G' := fun _ => True) (fun _ h => h) fun i Ha x Hb _ _ y => ?_) ln.symm (by rw [ln]; exact hz) hD (fun _ _ => trivial) hw p f ht he fun H1 e h => k D H1 hD e h⟩
  obtain ⟨e, c, hc, rfl⟩ := y
  refine ⟨e, ?_⟩
  unfold signsV
  rw [List.getElem?_map, Array.getElem?_toList, hc]
  rfl
def intsV (n : Nat) : List V := (List.range n).map fun (k : Nat) => V.int (k : Int)
theorem lc_r {vs : List Nat} {tn : TA} {n : Int} (p : V → Bool) (f : V → V) (hv : ∀ R : List V → Hp → Prop, R [.int n] H → tn σ H R) (hz : 0 ≤ n ∧ n ≤ 1000000) (hw : ∀ x, wipe ((wipe σ vs).set j (some x)) vs = wipe σ vs)
    (ht : ∀ x ∈ intsV n.toNat, ∀ H1, Ex H H1 → ∀ R : Bool → Hp → Prop, (∀ H2, Ex H1 H2 → R (p x) H2) → t ((wipe σ vs).set j (some x)) H1 R)
    (he : ∀ x ∈ intsV n.toNat, p x = true → ∀ H1, Ex H H1 → ∀ R : VK, (∀ H2, Ex H1 H2 → R (f x) H2) → te ((wipe σ vs).set j (some x)) H1 R)
    (k : ∀ D H1, H D = none → Ex H H1 → H1 D = some (.lst (((intsV n.toNat).filter p).map f)) → Q (.ref D) H1) : tLc (iRng1 tn) (gName j) t te vs σ H Q := by
  have ln : (intsV n.toNat).length = n.toNat := by unfold intsV; rw [List.length_map, List.length_range]
  refine hv _ ⟨n, rfl, by omega, by omega, fun D hD => lcp (xs := intsV n.toNat) ((walk_range (lo := 0) (n := n.toNat)).mono (G' := fun _ => True) (fun _ h => h) fun i Ha x Hb hi _ y => ?_) ln.symm (by rw [ln]; omega) hD (fun _ _ => trivial) hw p f ht he fun H1 e h => k D H1 hD e h⟩
  obtain ⟨e, rfl⟩ := y
  refine ⟨e, ?_⟩
  unfold intsV
  rw [List.getElem?_map, List.getElem?_range hi]
  show some (V.int (i : Int)) = some (V.int (0 + (i : Int)))
  rw [Int.zero_add]
theorem yes_t {xs : List V} {vs : List Nat} : ∀ x ∈ xs, ∀ H1, Ex H H1 → ∀ R : Bool → Hp → Prop, (∀ H2, Ex H1 H2 → R ((fun _ => true) x) H2) → tYes ((wipe σ vs).set j (some x)) H1 R := fun _ _ H1 _ _ k => k H1 (Ex.refl H1)
theorem filter_yes (l : List V) : l.filter (fun _ => true) = l := List.filter_eq_self.mpr fun _ _ => rfl
end
end AE

set_option Elab.async false
set_option linter.all false
set_option maxRecDepth 100000
namespace AE
open PySem PySem.Spec PyProof.Rows L2 Evl
section
variable {κ : Type} [DecidableEq κ]
theorem keys_put (kvs : List (κ × V)) (k : κ) (v : V) : (putK kvs k v).map (·.1) = if k ∈ kvs.map (·.1) then kvs.map (·.1) else kvs.map (·.1) ++ [k] := by
  unfold putK
  by_cases h : (kvs.any fun kv => decide (kv.1 = k)) = true
  · have m : k ∈ kvs.map (·.1) := by
      obtain ⟨p, hp, e⟩ := List.any_eq_true.mp h
      exact List.mem_map.mpr ⟨p, hp, of_decide_eq_true e⟩
    rw [if_pos h, if_pos m, List.map_map]
    refine List.map_congr_left fun p hp => ?_
    show (if p.1 = k then (p.1, v) else p).1 = p.1
    split <;> rfl
  · have m : ¬ k ∈ kvs.map (·.1) := fun m => by
      obtain ⟨p, hp, e⟩ := List.mem_map.mp m
      exact h (List.any_eq_true.mpr ⟨p, hp, decide_eq_true e⟩)
    rw [if_neg h, if_neg m, List.map_append]
    rfl
theorem nd_put {kvs : List (κ × V)} (k : κ) (v : V) (h : (kvs.map (·.1)).Nodup) : ((putK kvs k v).map (·.1)).Nodup := by
  rw [keys_put]
  split
  · exact h
  · rename_i m
    exact nd_snoc h m
theorem val_some {kvs : List (κ × V)} {k : κ} : (valV kvs k).isSome = true ↔ k ∈ kvs.map (·.1) := by
  rw [← valV_any]
  constructor
  · intro h
    obtain ⟨p, hp, e⟩ := List.any_eq_true.mp h
    exact List.mem_map.mpr ⟨p, hp, of_decide_eq_true e⟩
  · intro h
    obtain ⟨p, hp, e⟩ := List.mem_map.mp h
    exact List.any_eq_true.mpr ⟨p, hp, decide_eq_true e⟩
theorem len_put (kvs : List (κ × V)) (k : κ) (v : V) : (putK kvs k v).length ≤ kvs.length + 1 := length_putK kvs k v
end
theorem tx_dk {H : Hp} {D : Addr} {kvs : List (Key × V)} {o : HO} (h : H D = some (.dK kvs)) : Tx H (upd H D o) := fun a xs e => by
  rw [upd_ne (ne_of e h (by intro z; cases z))]
  exact e
theorem tx_dt {H : Hp} {D : Addr} {kvs : List (List Key × V)} {o : HO} (h : H D = some (.dT kvs)) : Tx H (upd H D o) := fun a xs e => by
  rw [upd_ne (ne_of e h (by intro z; cases z))]
  exact e
theorem tx_lst {H : Hp} {D : Addr} {ys : List V} {o : HO} (h : H D = some (.lst ys)) : Tx H (upd H D o) := fun a xs e => by
  rw [upd_ne (ne_of e h (by intro z; cases z))]
  exact e
section
variable {K : PySem.W.Frag} {σ : L2.St} {H : Hp} {Q : VK} {ta tb te : TE} {t : TT} {i j : Nat} {d : Addr} {kvs : List (Key × V)}
/-- back from under the lock -/
theorem ex_lock {H H1 : Hp} {d : Addr} {od : Obj} {u : HO} (h : H d = some u) (e : Ex (upd H d (.frz od u)) H1) : Ex H (upd H1 d u) := fun a o ha => by
  by_cases z : a = d
  · subst z
    rw [upd_same]
    rw [h] at ha
    exact ha
  · rw [upd_ne z]
    exact e a o (by rw [upd_ne z]; exact ha)
/-- [e for k in d], the items values -/
theorem lc_k {vs : List Nat} (f : V → V) (hv : ∀ H1, ∀ R : VK, R (.ref d) H1 → ta σ H1 R) (hd : H d = some (.dK kvs)) (hz : kvs.length ≤ 1000000) (hw : ∀ x, wipe ((wipe σ vs).set j (some x)) vs = wipe σ vs)
    (he : ∀ x ∈ kvs.map (fun kv => kV kv.1), ∀ H1, ∀ R : VK, R (f x) H1 → te ((wipe σ vs).set j (some x)) H1 R)
    (k : ∀ D H1, H D = none → Ex H H1 → H1 D = some (.lst ((kvs.map fun kv => kV kv.1).map f)) → Q (.ref D) H1) : tLockE (tLc (iKeys ta) (gName j) tYes te vs) σ H Q := by
  refine ⟨d, .dK kvs, hd, trivial, fun od => hv _ _ ⟨d, od, rfl, .inl ⟨kvs, upd_same, fun D hD => ?_⟩⟩⟩
  have hDd : D ≠ d := fun z => by subst z; rw [upd_same] at hD; cases hD
  have hD0 : H D = none := by rw [upd_ne hDd] at hD; exact hD
  refine lcp (H := upd H d (.frz od (.dK kvs))) (xs := kvs.map fun kv => kV kv.1) ((walk_keys (d := d) (o := od) (kvs := kvs)).mono (G' := fun Ha => Ha d = some (.frz od (.dK kvs))) (fun _ h => h) fun i Ha x Hb _ _ y => ?_) (List.length_map ..).symm (by rw [List.length_map]; exact hz) hD
    (fun Ha e => e d _ upd_same) hw (fun _ => true) f yes_t (fun x hx _ H1 e R k => he x hx H1 R (k H1 (Ex.refl H1))) fun H1 e h => ⟨e d _ upd_same, ?_⟩
  · obtain ⟨e, kk, v, hk, rfl⟩ := y
    refine ⟨e, ?_⟩
    rw [List.getElem?_map, hk]
    rfl
  · refine k D _ hD0 (ex_lock hd e) ?_
    rw [upd_ne hDd, h, filter_yes]
end
section
variable {K : PySem.W.Frag} {σ : L2.St} {H : Hp} {Q : VK} {ta tb te : TE} {t : TT} {i j : Nat} {a : Addr} {xs : List V}
theorem js_nil {acc : Str} {R : Str → Hp → Prop} (q : R acc H) : tJs [] acc σ H R := q
theorem yes_q {R : Bool → Hp → Prop} (q : R true H) : tYes σ H R := q
/-- what a comprehension over a list asks once the list is known -/
def LcL (K : PySem.W.Frag) (j : Nat) (t : TT) (te : TE) (vs : List Nat) (σ : L2.St) (Q : VK) : VK := fun x Ha => ∃ a, x = .ref a ∧ (∃ xs, SqL K Ha a xs) ∧ ∀ D, Ha D = none → ∃ W : Nat → Nat → Hp → Prop, (∃ m, W 0 m (upd Ha D (.lst []))) ∧ ∀ i m Hb, W i m Hb →
  ((Itl K a).stop i Hb ∧ Q (.ref D) Hb) ∨ ((Itl K a).go i Hb ∧ ∃ Nx : Hp → Prop, (∀ Hc, Nx Hc → ∃ m', m' < m ∧ W (i + 1) m' Hc) ∧ ∀ x Hc, (Itl K a).yld i Hb x Hc → gName j x (wipe σ vs) Hc fun σ2 Hd => wipe σ2 vs = wipe σ vs ∧ t σ2 Hd fun b He =>
    if b = true then te σ2 He fun y Hf => ∃ acc, Hf D = some (.lst acc) ∧ acc.length < sizeLine ∧ Nx (upd Hf D (.lst (acc ++ [y]))) else Nx He)
theorem r_lcL {vs : List Nat} (q : ta σ H (LcL K j t te vs σ Q)) : tLc (iList K ta) (gName j) t te vs σ H Q := q
theorem lcl_go {vs : List Nat} (p : V → Bool) (f : V → V) (hx : SqL K H a xs) (hz : xs.length ≤ 1000000) (hw : ∀ x, wipe ((wipe σ vs).set j (some x)) vs = wipe σ vs)
    (ht : ∀ x ∈ xs, ∀ H1, Ex H H1 → ∀ R : Bool → Hp → Prop, (∀ H2, Ex H1 H2 → R (p x) H2) → t ((wipe σ vs).set j (some x)) H1 R)
    (he : ∀ x ∈ xs, p x = true → ∀ H1, Ex H H1 → ∀ R : VK, (∀ H2, Ex H1 H2 → R (f x) H2) → te ((wipe σ vs).set j (some x)) H1 R)
    (k : ∀ D H1, H D = none → Ex H H1 → H1 D = some (.lst ((xs.filter p).map f)) → Q (.ref D) H1) : LcL K j t te vs σ Q (.ref a) H :=
  ⟨a, rfl, ⟨xs, hx⟩, fun D hD => lcp (walk_list (K := K) (a := a) (xs := xs)) rfl hz hD (fun _ e => ex_l e hx) hw p f ht he fun H1 e h => k D H1 hD e h⟩
end
/-! strings in order -/
theorem ltCps_eq : ∀ (a b : List Nat), ltCps a b = decide (a < b)
  | [], [] => by simp [ltCps]
  | [], b :: t => by simp [ltCps]
  | a :: r, [] => by simp [ltCps]
  | a :: r, b :: t => by
    unfold ltCps
    rw [ltCps_eq r t]
    by_cases h : a < b
    · simp [h, List.cons_lt_cons_iff]
    · by_cases h2 : a = b
      · subst h2
        simp [List.cons_lt_cons_iff]
      · simp [h, h2, List.cons_lt_cons_iff]
theorem sorted_pw : ∀ {ys : List Str}, sortedS ys = true → ys.Pairwise fun a b => ¬ b.cps.toList < a.cps.toList
  | [], _ => .nil
  | [y], _ => by simp
  | x :: y :: r, h => by
    have h1 : risingS x (y :: r) = true := h
    unfold risingS at h1
    rw [Bool.and_eq_true, ltCps_eq] at h1
    have ih := sorted_pw (ys := y :: r) h1.2
    have h2 : ¬ y.cps.toList < x.cps.toList := by simpa using h1.1
    rw [List.pairwise_cons]
    refine ⟨fun z hz => ?_, ih⟩
    rcases List.mem_cons.mp hz with rfl | hz
    · exact h2
    · rw [List.pairwise_cons] at ih
      exact fun q => List.not_lt.mpr (List.le_trans (List.not_lt.mp h2) (List.not_lt.mp (ih.1 z hz))) q
end AE

set_option Elab.async false
set_option linter.all false
set_option maxRecDepth 100000
namespace AE
open PySem PySem.Spec PyProof.Rows L2 Evl
section
variable {J : It} {n : Nat} {G : Hp → Prop} {Y : Nat → Hp → V → Hp → Prop} {g : TG} {t : TT} {tk tv te : TE} {vs : List Nat} {σ : L2.St} {H : Hp} {D : Addr} {Qd : Hp → Prop}
/-- a dict comprehension over any walk: keys tuples -/
theorem dcT_it (w : Walk J n G Y) (Pv : Nat → Hp → Prop) (h0 : Pv 0 (upd H D (.dT []))) (hG : ∀ i Ha, i ≤ n → Pv i Ha → G Ha)
    (hs : ∀ i x Ha Hb, i < n → Pv i Ha → Y i Ha x Hb → g x (wipe σ vs) Hb fun σ2 Hc => wipe σ2 vs = wipe σ vs ∧ t σ2 Hc fun b Hd =>
      if b = true then tk σ2 Hd fun y He => tv σ2 He fun z Hf => sT D y z Hf (Pv (i + 1)) else Pv (i + 1) Hd) (hd : ∀ Ha, Pv n Ha → Qd Ha) :
    ∃ W : Nat → Nat → Hp → Prop, (∃ m, W 0 m (upd H D (.dT []))) ∧ ∀ i m Ha, W i m Ha →
      (J.stop i Ha ∧ Qd Ha) ∨ (J.go i Ha ∧ ∃ Nx : Hp → Prop, (∀ Hb, Nx Hb → ∃ m1, m1 < m ∧ W (i + 1) m1 Hb) ∧ ∀ x Hb, J.yld i Ha x Hb → g x (wipe σ vs) Hb fun σ2 Hc => wipe σ2 vs = wipe σ vs ∧ t σ2 Hc fun b Hd =>
        if b = true then tk σ2 Hd fun y He => tv σ2 He fun z Hf => sT D y z Hf Nx else Nx Hd) := by
  refine ⟨fun i m Ha => m + i = n ∧ Pv i Ha, ⟨n, by omega, h0⟩, ?_⟩
  rintro i m Ha ⟨hm, p⟩
  have q := hG i Ha (by omega) p
  by_cases hlt : i < n
  · exact .inr ⟨w.goes i Ha hlt q, Pv (i + 1), fun Hb p1 => ⟨m - 1, by omega, by omega, p1⟩, fun x Hb y => hs i x Ha Hb hlt p (w.yields i Ha x Hb hlt q y)⟩
  · obtain rfl : i = n := by omega
    exact .inl ⟨w.stops Ha q, hd Ha p⟩
/-- .. keys ints or texts -/
theorem dcK_it (w : Walk J n G Y) (Pv : Nat → Hp → Prop) (h0 : Pv 0 (upd H D (.dK []))) (hG : ∀ i Ha, i ≤ n → Pv i Ha → G Ha)
    (hs : ∀ i x Ha Hb, i < n → Pv i Ha → Y i Ha x Hb → g x (wipe σ vs) Hb fun σ2 Hc => wipe σ2 vs = wipe σ vs ∧ t σ2 Hc fun b Hd =>
      if b = true then tk σ2 Hd fun y He => tv σ2 He fun z Hf => ∃ kvs k, y = kV k ∧ Hf D = some (.dK kvs) ∧ kvs.length < sizeLine ∧ Pv (i + 1) (upd Hf D (.dK (putK kvs k z))) else Pv (i + 1) Hd) (hd : ∀ Ha, Pv n Ha → Qd Ha) :
    ∃ W : Nat → Nat → Hp → Prop, (∃ m, W 0 m (upd H D (.dK []))) ∧ ∀ i m Ha, W i m Ha →
      (J.stop i Ha ∧ Qd Ha) ∨ (J.go i Ha ∧ ∃ Nx : Hp → Prop, (∀ Hb, Nx Hb → ∃ m1, m1 < m ∧ W (i + 1) m1 Hb) ∧ ∀ x Hb, J.yld i Ha x Hb → g x (wipe σ vs) Hb fun σ2 Hc => wipe σ2 vs = wipe σ vs ∧ t σ2 Hc fun b Hd =>
        if b = true then tk σ2 Hd fun y He => tv σ2 He fun z Hf => ∃ kvs k, y = kV k ∧ Hf D = some (.dK kvs) ∧ kvs.length < sizeLine ∧ Nx (upd Hf D (.dK (putK kvs k z))) else Nx Hd) := by
  refine ⟨fun i m Ha => m + i = n ∧ Pv i Ha, ⟨n, by omega, h0⟩, ?_⟩
  rintro i m Ha ⟨hm, p⟩
  have q := hG i Ha (by omega) p
  by_cases hlt : i < n
  · exact .inr ⟨w.goes i Ha hlt q, Pv (i + 1), fun Hb p1 => ⟨m - 1, by omega, by omega, p1⟩, fun x Hb y => hs i x Ha Hb hlt p (w.yields i Ha x Hb hlt q y)⟩
  · obtain rfl : i = n := by omega
    exact .inl ⟨w.stops Ha q, hd Ha p⟩
end
/-! ### rows grouped -/
/-- a dict of lists: at each key the list of the values that f gives of the row's members with that key -/
structure Grp {κ : Type} [DecidableEq κ] (H0 H : Hp) (kvs : List (κ × V)) (G : κ → List V) : Prop where
  nd : (kvs.map (·.1)).Nodup
  val : ∀ k v, valV kvs k = some v → ∃ l, v = .ref l ∧ H l = some (.lst (G k)) ∧ H0 l = none ∧ G k ≠ []
  has : ∀ k, G k ≠ [] → (valV kvs k).isSome = true
  inj : ∀ k k' l, valV kvs k = some (.ref l) → valV kvs k' = some (.ref l) → k = k'
section
variable {κ : Type} [DecidableEq κ] {H0 H H' : Hp} {kvs : List (κ × V)} {G : κ → List V}
theorem Grp.nil (h : ∀ k, G k = []) : Grp H0 H ([] : List (κ × V)) G := ⟨List.nodup_nil, fun _ _ h => (by cases h), fun k e => absurd (h k) e, fun _ _ _ h => (by cases h)⟩
theorem Grp.mono (g : Grp H0 H kvs G) (e : ∀ l xs, H l = some (.lst xs) → H' l = some (.lst xs)) : Grp H0 H' kvs G :=
  ⟨g.nd, fun k v h => by obtain ⟨l, a, b, c⟩ := g.val k v h; exact ⟨l, a, e l _ b, c⟩, g.has, g.inj⟩
/-- one more at a key that is there -/
theorem Grp.more {k : κ} {l : Addr} {x : V} (g : Grp H0 H kvs G) (h : valV kvs k = some (.ref l)) (e : ∀ a xs, a ≠ l → H a = some (.lst xs) → H' a = some (.lst xs)) (hl : H' l = some (.lst (G k ++ [x]))) : Grp H0 H' kvs fun k' => if k' = k then G k ++ [x] else G k' := by
  obtain ⟨l1, e1, _, h0, _⟩ := g.val k _ h
  cases e1
  refine ⟨g.nd, fun k' v hv => ?_, fun k' hk => ?_, g.inj⟩
  · obtain ⟨l2, rfl, h2, h3, h4⟩ := g.val k' v hv
    by_cases z : k' = k
    · subst z
      rw [h] at hv
      cases hv
      exact ⟨l, rfl, by rw [if_pos rfl]; exact hl, h3, by rw [if_pos rfl]; simp⟩
    · refine ⟨l2, rfl, ?_, h3, by rw [if_neg z]; exact h4⟩
      rw [if_neg z]
      exact e _ _ (fun q => z (g.inj k' k l (by rw [hv, q]) h)) h2
  · by_cases z : k' = k
    · subst z
      rw [h]
      rfl
    · rw [if_neg z] at hk
      exact g.has k' hk
/-- a new key -/
theorem Grp.new {k : κ} {l : Addr} {x : V} (g : Grp H0 H kvs G) (h : valV kvs k = none) (hn : H l = none) (hl0 : H0 l = none) (e : ∀ a xs, a ≠ l → H a = some (.lst xs) → H' a = some (.lst xs)) (hl : H' l = some (.lst [x])) : Grp H0 H' (putK kvs k (.ref l)) fun k' => if k' = k then G k ++ [x] else G k' := by
  have gk : G k = [] := by
    by_cases z : G k = []
    · exact z
    · have := g.has k z
      rw [h] at this
      cases this
  refine ⟨nd_put _ _ g.nd, fun k' v hv => ?_, fun k' hk => ?_, fun a b m ha hb => ?_⟩
  · rw [valV_put] at hv
    by_cases z : k' = k
    · subst z
      rw [if_pos rfl] at hv
      cases hv
      exact ⟨l, rfl, by rw [if_pos rfl, gk]; exact hl, hl0, by rw [if_pos rfl]; simp⟩
    · rw [if_neg z] at hv
      obtain ⟨l2, rfl, h2, h3, h4⟩ := g.val k' v hv
      exact ⟨l2, rfl, by rw [if_neg z]; exact e _ _ (fun q => by rw [q, hn] at h2; cases h2) h2, h3, by rw [if_neg z]; exact h4⟩
  · rw [valV_put]
    by_cases z : k' = k
    · rw [if_pos z]
      rfl
    · rw [if_neg z] at hk ⊢
      exact g.has k' hk
  · have old : ∀ c, valV kvs c = some (.ref m) → m ≠ l := fun c hc q => by
      obtain ⟨l2, e2, h2, _⟩ := g.val c _ hc
      cases e2
      rw [q, hn] at h2
      cases h2
    rw [valV_put] at ha hb
    by_cases za : a = k
    · by_cases zb : b = k
      · rw [za, zb]
      · rw [if_pos za] at ha
        rw [if_neg zb] at hb
        cases ha
        exact absurd rfl (old b hb)
    · rw [if_neg za] at ha
      by_cases zb : b = k
      · rw [if_pos zb] at hb
        cases hb
        exact absurd rfl (old a ha)
      · rw [if_neg zb] at hb
        exact g.inj a b m ha hb
/-- the same, each list a tuple: what a machine keeps -/
def GrpT (H : Hp) (kvs : List (κ × V)) (G : κ → List V) : Prop := ∀ k, (G k = [] → valV kvs k = none) ∧ (G k ≠ [] → ∃ p, valV kvs k = some (.ref p) ∧ H p = some (.tup (G k)))
theorem GrpT.tx {kvs : List (κ × V)} (e : Tx H H') (g : GrpT H kvs G) : GrpT H' kvs G := fun k => ⟨(g k).1, fun h => by obtain ⟨p, a, b⟩ := (g k).2 h; exact ⟨p, a, e _ _ b⟩⟩
end
def endsF (rows : List StepD) (k : List Key) : List V := (rows.filter fun s => decide ([.inl s.1, .inr s.2.1] = k)).map fun s => .int s.2.2
theorem endsF_snoc (rows : List StepD) (s : StepD) (k : List Key) : endsF (rows ++ [s]) k = if k = [.inl s.1, .inr s.2.1] then endsF rows [.inl s.1, .inr s.2.1] ++ [.int s.2.2] else endsF rows k := by
  unfold endsF
  rw [List.filter_append, List.map_append]
  by_cases h : k = [.inl s.1, .inr s.2.1]
  · rw [if_pos h, h, List.filter_cons, if_pos (decide_eq_true rfl)]
    rfl
  · rw [if_neg h, List.filter_cons, if_neg (by rw [decide_eq_false (fun q => h q.symm)]; decide)]
    simp
end AE

set_option Elab.async false
set_option linter.all false
set_option maxRecDepth 100000
namespace AE
open PySem PySem.Spec PyProof.Rows L2 Evl
/-! the rules that speak of the written part, told for a block -/
section
variable {X : Cx} {K : PySem.W.Frag}
theorem opAddK (h : X.K = K := by rfl) : OpR X (binaryOp .Add) (rAddA K) := by subst h; exact opAdd
theorem c_lenK (h : X.K = K := by rfl) : CallR X (.builtin "len") (cLen K) := by subst h; exact c_len
theorem c_listK (h : X.K = K := by rfl) : CallR X (.type "list") (cList K) := by subst h; exact c_list
theorem c_tupleK (h : X.K = K := by rfl) : CallR X (.type "tuple") (cTup K) := by subst h; exact c_tuple
theorem c_isinstanceK (h : X.K = K := by rfl) : CallR X (.builtin "isinstance") (rIsi K) := by subst h; exact c_isinstance
theorem ix_seqK (h : X.K = K := by rfl) : IxR X (rIx K) := by subst h; exact ix_seq
theorem sl_listK (h : X.K = K := by rfl) : SlR X (rSlL K) := by subst h; exact sl_list
theorem op_in_seqK (h : X.K = K := by rfl) : OpR X (compareOp .In) (rIn K false) := by subst h; exact op_in_seq
theorem op_notIn_seqK (h : X.K = K := by rfl) : OpR X (compareOp .NotIn) (rIn K true) := by subst h; exact op_notIn_seq
theorem op_inDK (hu : X.A.units + 65 < cLine) (h : X.K = K := by rfl) : OpR X (compareOp .In) (rInD K) := by subst h; exact op_inD hu
theorem op_eqDK (hu : X.A.units + 64 < cLine) (h : X.K = K := by rfl) : OpR X (compareOp .Eq) (rEqD K) := by subst h; exact op_eqD hu
theorem op_neDK (hu : X.A.units + 64 < cLine) (h : X.K = K := by rfl) : OpR X (compareOp .NotEq) (rNeD K) := by subst h; exact op_neD hu
theorem pe_fldK {e : Expr} {ta : TE} {f : Str} {pos : Pos} (he : PE X e ta) (hb : attributeBase e f X.env (eval e X.env) = eval e X.env) (h : X.K = K := by rfl) : PE X (.Attribute e f pos) (tFld K ta f) := by subst h; exact pe_fld he hb
end
end AE

set_option Elab.async false
set_option linter.all false
set_option maxRecDepth 100000
namespace AE
open PySem PySem.Spec PyProof.Rows L2 Evl
section
variable {K : PySem.W.Frag} {σ : L2.St} {H H0 : Hp} {Q : VK} {d : Addr} {i j : Nat} {vs : List Nat}
theorem grp_tupT {kvs : List (List Key × V)} {G : List Key → List V} (hi : σ[i]? = some (some (.ref d))) (hi2 : ∀ x, ((wipe σ vs).set j (some x))[i]? = some (some (.ref d))) (hj : ∀ x, ((wipe σ vs).set j (some x))[j]? = some (some x))
    (hw : ∀ x, wipe ((wipe σ vs).set j (some x)) vs = wipe σ vs) (hd : H d = some (.dT kvs)) (g : Grp H0 H kvs G) (kl : kvs.length ≤ 1000)
    (k : ∀ p H1, H p = none → Ex H H1 → (∃ k2, H1 p = some (.dT k2) ∧ GrpT H1 k2 G) → Q (.ref p) H1) :
    tLockE (tDcT (iKeys (tVar i)) (gName j) tYes (tVar j) (tCB (cTup K) (tCons (tDGet (tVar i) (tVar j)) tNil)) vs) σ H Q := by
  refine ⟨d, .dT kvs, hd, trivial, fun od => ⟨_, hi, d, od, rfl, .inr ⟨kvs, upd_same, fun D hD => ?_⟩⟩⟩
  have hDd : D ≠ d := fun z => by subst z; rw [upd_same] at hD; cases hD
  have hD0 : H D = none := by rw [upd_ne hDd] at hD; exact hD
  have old : ∀ {Ha : Hp} {a : Addr} {o : HO}, Ex (upd H d (.frz od (.dT kvs))) Ha → a ≠ d → H a = some o → Ha a = some o := fun e z h => e _ _ (by rw [upd_ne z]; exact h)
  refine dcT_it (walk_keysT (d := d) (o := od) (kvs := kvs)) (fun m Ha => Ex (upd H d (.frz od (.dT kvs))) Ha ∧ ∃ k2, Ha D = some (.dT k2) ∧ k2.length ≤ m ∧ (∀ k v, valV k2 k = some v → ∃ p, v = .ref p ∧ Ha p = some (.tup (G k)) ∧ G k ≠ []) ∧ ∀ kv ∈ kvs.take m, (valV k2 kv.1).isSome = true)
    ⟨Ex.new hD, [], upd_same, Nat.le_refl _, fun _ _ h => (by cases h), fun _ h => (by cases h)⟩ (fun m Ha _ p => p.1 d _ upd_same) ?_ ?_
  · rintro m x Ha Hb hm ⟨e, k2, hk2, kl2, val, has⟩ ⟨rfl, kk, v0, q, hkv, rfl, hq⟩
    have fz := e d _ upd_same
    refine ⟨hw _, yes_q (ite_t rfl ⟨_, hj _, ?_⟩)⟩
    obtain ⟨v, hv⟩ := Option.isSome_iff_exists.mp (val_some.mpr (List.mem_map.mpr ⟨(kk, v0), List.mem_of_getElem? hkv, rfl⟩))
    obtain ⟨l, rfl, hl, hl0, ne⟩ := g.val kk v hv
    have ld : l ≠ d := ne_of hl hd (by intro z; cases z)
    refine ⟨_, hi2 _, _, hj _, d, .ref l, rfl, .inr ⟨kvs, kk, q, .inr ⟨od, fz⟩, rfl, hq, hv.symm⟩, l, G kk, rfl, .inl ⟨.inl (.inl (old e ld hl)), fun p hp => ?_⟩⟩
    have hqp : q ≠ p := ne_of_none hq hp
    have hDp : D ≠ p := ne_of_none hk2 hp
    have hk3 : (upd Hb p (.tup (G kk))) D = some (.dT k2) := by rw [upd_ne hDp]; exact hk2
    refine ⟨k2, kk, q, rfl, by rw [upd_ne hqp]; exact hq, hk3, sz_lt (by omega), ex_upd (e.trans (Ex.new hp)) hD, _, upd_same, Nat.le_trans (len_put _ _ _) (by omega), fun k' v' h' => ?_, fun kv hkv' => ?_⟩
    · rw [valV_put] at h'
      by_cases z : k' = kk
      · rw [if_pos z] at h'
        cases h'
        exact ⟨p, rfl, by rw [upd_ne hDp.symm, upd_same, z], by rw [z]; exact ne⟩
      · rw [if_neg z] at h'
        obtain ⟨p', a1, a2, a3⟩ := val k' v' h'
        refine ⟨p', a1, tx_dt hk3 _ _ (Ex.new hp _ _ a2), a3⟩
    · rw [valV_put]
      by_cases z : kv.1 = kk
      · rw [if_pos z]
        rfl
      · rw [if_neg z]
        rw [List.take_add_one, hkv] at hkv'
        rcases List.mem_append.mp hkv' with h | h
        · exact has kv h
        · exact absurd (by rw [List.mem_singleton.mp h]) z
  · rintro Ha ⟨e, k2, hk2, kl2, val, has⟩
    rw [List.take_length] at has
    refine ⟨e d _ upd_same, k D _ hD0 (ex_lock hd e) ⟨k2, by rw [upd_ne hDd]; exact hk2, fun k' => ⟨fun z => ?_, fun z => ?_⟩⟩⟩
    · cases hh : valV k2 k' with
      | none => rfl
      | some v =>
        obtain ⟨_, _, _, n⟩ := val k' v hh
        exact absurd z n
    · obtain ⟨kv, hkv, rfl⟩ := List.mem_map.mp (val_some.mp (g.has k' z))
      obtain ⟨v, hv⟩ := Option.isSome_iff_exists.mp (has kv hkv)
      obtain ⟨p, rfl, hp, _⟩ := val _ v hv
      exact ⟨p, hv, by rw [upd_ne (fun z => by subst z; rw [e _ _ upd_same] at hp; cases hp)]; exact hp⟩
theorem grp_tupK {kvs : List (Key × V)} {G : Key → List V} (hu : True) (hi : σ[i]? = some (some (.ref d))) (hi2 : ∀ x, ((wipe σ vs).set j (some x))[i]? = some (some (.ref d))) (hj : ∀ x, ((wipe σ vs).set j (some x))[j]? = some (some x))
    (hw : ∀ x, wipe ((wipe σ vs).set j (some x)) vs = wipe σ vs) (hd : H d = some (.dK kvs)) (g : Grp H0 H kvs G) (kl : kvs.length ≤ 1000)
    (k : ∀ p H1, H p = none → Ex H H1 → (∃ k2, H1 p = some (.dK k2) ∧ GrpT H1 k2 G) → Q (.ref p) H1) :
    tLockE (tDc (iKeys (tVar i)) (gName j) tYes (tVar j) (tCB (cTup K) (tCons (tDGet (tVar i) (tVar j)) tNil)) vs) σ H Q := by
  refine ⟨d, .dK kvs, hd, trivial, fun od => ⟨_, hi, d, od, rfl, .inl ⟨kvs, upd_same, fun D hD => ?_⟩⟩⟩
  have hDd : D ≠ d := fun z => by subst z; rw [upd_same] at hD; cases hD
  have hD0 : H D = none := by rw [upd_ne hDd] at hD; exact hD
  have old : ∀ {Ha : Hp} {a : Addr} {o : HO}, Ex (upd H d (.frz od (.dK kvs))) Ha → a ≠ d → H a = some o → Ha a = some o := fun e z h => e _ _ (by rw [upd_ne z]; exact h)
  refine dcK_it (walk_keys (d := d) (o := od) (kvs := kvs)) (fun m Ha => Ex (upd H d (.frz od (.dK kvs))) Ha ∧ ∃ k2, Ha D = some (.dK k2) ∧ k2.length ≤ m ∧ (∀ k v, valV k2 k = some v → ∃ p, v = .ref p ∧ Ha p = some (.tup (G k)) ∧ G k ≠ []) ∧ ∀ kv ∈ kvs.take m, (valV k2 kv.1).isSome = true)
    ⟨Ex.new hD, [], upd_same, Nat.le_refl _, fun _ _ h => (by cases h), fun _ h => (by cases h)⟩ (fun m Ha _ p => p.1 d _ upd_same) ?_ ?_
  · rintro m x Ha Hb hm ⟨e, k2, hk2, kl2, val, has⟩ ⟨rfl, kk, v0, hkv, rfl⟩
    have fz := e d _ upd_same
    refine ⟨hw _, yes_q (ite_t rfl ⟨_, hj _, ?_⟩)⟩
    obtain ⟨v, hv⟩ := Option.isSome_iff_exists.mp (val_some.mpr (List.mem_map.mpr ⟨(kk, v0), List.mem_of_getElem? hkv, rfl⟩))
    obtain ⟨l, rfl, hl, hl0, ne⟩ := g.val kk v hv
    have ld : l ≠ d := ne_of hl hd (by intro z; cases z)
    refine ⟨_, hi2 _, _, hj _, d, .ref l, rfl, .inl ⟨kvs, kk, .inr ⟨od, fz⟩, rfl, hv.symm⟩, l, G kk, rfl, .inl ⟨.inl (.inl (old e ld hl)), fun p hp => ?_⟩⟩
    have hDp : D ≠ p := ne_of_none hk2 hp
    have hk3 : (upd Hb p (.tup (G kk))) D = some (.dK k2) := by rw [upd_ne hDp]; exact hk2
    refine ⟨k2, kk, rfl, hk3, sz_lt (by omega), ex_upd (e.trans (Ex.new hp)) hD, _, upd_same, Nat.le_trans (len_put _ _ _) (by omega), fun k' v' h' => ?_, fun kv hkv' => ?_⟩
    · rw [valV_put] at h'
      by_cases z : k' = kk
      · rw [if_pos z] at h'
        cases h'
        exact ⟨p, rfl, by rw [upd_ne hDp.symm, upd_same, z], by rw [z]; exact ne⟩
      · rw [if_neg z] at h'
        obtain ⟨p', a1, a2, a3⟩ := val k' v' h'
        exact ⟨p', a1, tx_dk hk3 _ _ (Ex.new hp _ _ a2), a3⟩
    · rw [valV_put]
      by_cases z : kv.1 = kk
      · rw [if_pos z]
        rfl
      · rw [if_neg z]
        rw [List.take_add_one, hkv] at hkv'
        rcases List.mem_append.mp hkv' with h | h
        · exact has kv h
        · exact absurd (by rw [List.mem_singleton.mp h]) z
  · rintro Ha ⟨e, k2, hk2, kl2, val, has⟩
    rw [List.take_length] at has
    refine ⟨e d _ upd_same, k D _ hD0 (ex_lock hd e) ⟨k2, by rw [upd_ne hDd]; exact hk2, fun k' => ⟨fun z => ?_, fun z => ?_⟩⟩⟩
    · cases hh : valV k2 k' with
      | none => rfl
      | some v =>
        obtain ⟨_, _, _, n⟩ := val k' v hh
        exact absurd z n
    · obtain ⟨kv, hkv, rfl⟩ := List.mem_map.mp (val_some.mp (g.has k' z))
      obtain ⟨v, hv⟩ := Option.isSome_iff_exists.mp (has kv hkv)
      obtain ⟨p, rfl, hp, _⟩ := val _ v hv
      exact ⟨p, hv, by rw [upd_ne (fun z => by subst z; rw [e _ _ upd_same] at hp; cases hp)]; exact hp⟩
end
/-- pairs of a state -/
def pairD (s : StepD) : List V := [.str s.2.1, .int s.2.2]
end AE

set_option Elab.async false
set_option linter.all false
set_option maxRecDepth 100000
namespace AE
open PySem PySem.Spec PyProof.Rows L2 Evl
section
variable {K : PySem.W.Frag} {σ : L2.St} {H : Hp} {Q : VK} {D : Ends} {ta tv : TE} {f : Str} {a C dx : Addr} {fs : List (Str × V)} {v : V} {i : Nat}
def StF (K : PySem.W.Frag) (f : Str) (x y : V) (H : Hp) (R : Hp → Prop) : Prop := ∃ a C dx fs, x = .ref a ∧ H a = some (.ins C dx fs) ∧ Cls K C ∧ NoAttr K C f ∧ fs.length < 1000 ∧ R (upd H a (.ins C dx (putF f y fs)))
theorem r_fld (q : tv σ H fun y H1 => ta σ H1 fun x H2 => StF K f x y H2 (D.nx σ)) : sFld K ta tv f D σ H := q
theorem stf_go {R : Hp → Prop} (h : H a = some (.ins C dx fs)) (c : Cls K C) (n : NoAttr K C f) (l : fs.length < 1000) (q : ∀ H1, Ch a H H1 → H1 a = some (.ins C dx (putF f v fs)) → R H1) : StF K f (.ref a) v H R :=
  ⟨a, C, dx, fs, rfl, h, c, n, l, q _ ch_upd upd_same⟩
def GtF (K : PySem.W.Frag) (f : Str) (x : V) (H : Hp) (Q : VK) : Prop := ∃ a C dx fs v, x = .ref a ∧ H a = some (.ins C dx fs) ∧ Cls K C ∧ NoAttr K C f ∧ fs.lookup f = some v ∧ Q v H
theorem r_get (q : ta σ H fun x H1 => GtF K f x H1 Q) : tFld K ta f σ H Q := q
theorem gtf_go (h : H a = some (.ins C dx fs)) (c : Cls K C) (n : NoAttr K C f) (e : fs.lookup f = some v) (q : Q v H) : GtF K f (.ref a) H Q := ⟨a, C, dx, fs, v, rfl, h, c, n, e, q⟩
theorem r_dget2 {td ty tx : TE} (q : td σ H fun x H1 => ∃ a, x = .ref a ∧ IsD H1 a ∧ ty σ H1 fun y H2 => tx σ H2 fun z H3 => ∃ o, DGet H3 a y o ∧ Q (o.getD z) H3) : tDGet2 td ty tx σ H Q := q
/-- k in d, by what stands there -/
theorem r_din {td ty : TE} (q : ty σ H fun y H1 => td σ H1 fun x H2 => ∃ a o, x = .ref a ∧ DGet H2 a y o ∧ Q (.bl o.isSome) H2) : tDIn ty td σ H Q := q
theorem tup_l {p : Addr} {xs : List V} (h : SqL K H p xs) (q : ∀ l H1, H l = none → Ex H H1 → H1 l = some (.tup xs) → Q (.ref l) H1) : cTup K [.ref p] H Q := ⟨p, xs, rfl, .inl ⟨h, fun l hl => q l _ hl (Ex.new hl) upd_same⟩⟩
theorem list_s {p : Addr} {xs : List V} (h : SqL K H p xs ∨ SqT K H p xs) (q : ∀ l H1, H l = none → Ex H H1 → H1 l = some (.lst xs) → Q (.ref l) H1) : cList K [.ref p] H Q := ⟨p, xs, rfl, h, fun l hl => q l _ hl (Ex.new hl) upd_same⟩
end
end AE

set_option Elab.async false
set_option linter.all false
set_option maxRecDepth 100000
set_option maxHeartbeats 2000000
namespace AE
open PySem PySem.Spec PyProof.Rows L2 Evl
/-! ### own operators -/
section
variable {prog : Program} {w : World} {A : Around} {E : Value → Shared → Prop} {s : Shared} {K : PySem.W.Frag} {x C f : Addr} {ox : Obj} {odd : Option Obj}
theorem truthy_at {M : Model} {Q : Bool → Shared → Prop} (X : K.In s.heap) (I : PySem.W.InstAt s.heap x ox C odd) (hs : PySem.W.findIn K (.ref C) "__bool__" = some (some (.ref f))) (hf : PySem.W.isFn K (.ref f) = true)
    (h : wpAny M A (call (.ref f) [.ref x]) (fun r s1 => ∃ b, r = Value.bool b ∧ Q b s1) E s) : wpAny M A (truthy (.ref x)) Q E s := by
  unfold truthy
  refine wpAny_bind (m := callSpecial? (.ref x) (Str.ofString "__bool__")) (PySem.W.special_fn X I hs (beq_iff_eq.mp hf) (wpAny_mono h (fun r s1 hr => ?_) fun _ _ y => y))
  obtain ⟨b, rfl, q⟩ := hr
  exact wpAny_pure q
/-- bool(x) by an own __bool__ -/
theorem bool_at {Q : Value → Shared → Prop} (X : K.In s.heap) (I : PySem.W.InstAt s.heap x ox C odd) (hs : PySem.W.findIn K (.ref C) "__bool__" = some (some (.ref f))) (hf : PySem.W.isFn K (.ref f) = true)
    (h : wpAny (model prog w) A.in1.in1 (call (.ref f) [.ref x]) (fun r s1 => ∃ b, r = Value.bool b ∧ Q (.bool b) s1) E s) : wpAny (model prog w) A (call (.type "bool") [.ref x]) Q E s := by
  refine callType_codes (T := "bool") (Bi := Builtin.«object.__init__») (Q₁ := fun r s1 => ∃ b, r = Value.bool b ∧ Q r s1) PySem.F.called_bool (PySem.F.typeCall_bool_1 _) PySem.F.entry_object_init ?_ ?_
  · refine codeAny_of_tree ?_
    show wpAny _ A.in1.in1 (do checkBuiltinCall "bool.__new__" ⟨[.type "bool", .ref x], []⟩; again (.builtin "bool.__new__" ⟨[.type "bool", .ref x], []⟩)) _ _ s
    refine wpAny_bind (wpAny_of_eq (PySem.F.newCall_bool_1 _) (wpAny_pure ⟨plainId_quiet (by decide +kernel) _, codeAny_builtin PySem.F.entry_bool_new ?_⟩))
    rw [Around.under_plainId (by decide +kernel) _]
    unfold Builtin.«bool.__new__»
    refine wpAny_bind (wpAny_of_eq (a := true) (by kernel_rfl) ?_)
    refine PySem.W.KFB.if_not rfl ?_
    refine wpAny_bind (wpAny_of_eq (a := true) (by rw [isSubtype_type]; kernel_rfl) ?_)
    refine PySem.W.KFB.if_not rfl ?_
    refine wpAny_bind (wpAny_of_eq (a := [Value.ref x]) (by rfl) ?_)
    refine wpAny_bind (truthy_at X I hs hf (wpAny_mono h (fun r s1 hr => ?_) fun _ _ y => y))
    obtain ⟨b, rfl, q⟩ := hr
    exact ⟨b, rfl, wpAny_pure ⟨b, rfl, q⟩⟩
  · rintro obj s1 ⟨b, rfl, q⟩
    exact ⟨rfl, PySem.F.args_object_init_2 _ _, object_init_meets PySem.F.called_bool.init.lookup PySem.F.called_bool.made (by decide) prog w A.in1 _ s1 ⟨rfl, rfl, q⟩⟩
end
section
variable {X : Cx} {pins : List (Addr × Obj)} {σ : L2.St} {H : Hp} {s : Shared} {f C : Addr} {fd : FuncData} {ps : List Str} {sp : Sp} {CX : CXT} {k : Nat} {Q : VK} {E : XK} {vs : List V} {us : List Value}
/-- a call of a def somewhat deeper -/
theorem run_deep {A : Around} (F : FnOk X.prog X.w X.K X.mg X.base CX k f fd ps sp) (hr : Room k A) (e0 : Env0 X.prog X.w X.K X.mg X.base A X.stack s H) (hb : Binds X.K fd ps []) (hx : Passes CX X E)
    (I : Inv X pins σ H s) (r : Vals vs us) (h : sp vs H Q E) : wpAny (model X.prog X.w) A (call (.ref f) us) (EP X pins σ Q) X.xe s := by
  have hl : (us ++ []).length = ps.length := by
    rw [List.append_nil, ← r.length]
    exact F.len _ _ _ _ h
  have bb := hb s us I.kIn hl
  rw [List.append_nil] at bb
  refine wpAny_call (codeAny_mono (F.run A X.stack s H ⟨us, []⟩ us vs Q E hr e0 bb r h) fun r s' hq => ?_)
  cases r with
  | error e => exact hx pins σ H s e s' I hq
  | ok fl =>
    cases fl with
    | ret u => exact I.after hq
    | next => exact False.elim hq
    | brk => exact False.elim hq
    | cont => exact False.elim hq
theorem inst_in {dx : Addr} {fs : List (Str × V)} {a : Addr} (I : Inv X pins σ H s) (h : H a = some (.ins C dx fs)) : ∃ od, PySem.W.InstAt s.heap a (PySem.W.instObj C dx) C (some od) := by
  obtain ⟨_, _, _, e, mA, hn, _⟩ := I.hok a _ h
  obtain ⟨o, _, _, e2, _⟩ := id hn
  exact ⟨o, e, rfl, rfl, e2⟩
/-- bool(o) -/
def rBoolO (C : Addr) (sp : Sp) (E : XK) : List V → Hp → VK → Prop := fun xs H Q => ∃ a dx fs, xs = [.ref a] ∧ H a = some (.ins C dx fs) ∧ sp [.ref a] H (fun v H1 => ∃ b, v = .bl b ∧ Q (.bl b) H1) E
theorem c_boolO (hs : Meth X.K C "__bool__" f) (F : FnOk X.prog X.w X.K X.mg X.base CX k f fd ps sp) (hr : Room (k + 2) X.A) (hb : Binds X.K fd ps []) (hx : Passes CX X E) : CallR X (.type "bool") (rBoolO C sp E) := by
  rintro pins s σ H xs us Q I r ⟨a, dx, fs, rfl, ha, q⟩
  cases r with
  | cons ra rt =>
    cases rt
    cases ra
    obtain ⟨od, J⟩ := inst_in I ha
    refine bool_at I.kIn J hs.at_ hs.fn (wpAny_mono (run_deep (vs := [.ref a]) F (show Room (k + 1) X.A.in1 from Room.in1 hr).in1 I.env0.in1.in1 hb hx I (.cons rfl .nil) q) (fun r s1 hr => ?_) fun _ _ y => y)
    obtain ⟨v, H1, I1, rv, b, rfl, q1⟩ := hr
    exact ⟨b, rv, .bl b, H1, I1, rfl, q1⟩
/-- o[i] -/
def tIxO (C : Addr) (sp : Sp) (E : XK) (ta tb : TE) : TE := fun σ H Q => ta σ H fun x H1 => tb σ H1 fun y H2 => ∃ a dx fs, x = .ref a ∧ H2 a = some (.ins C dx fs) ∧ sp [.ref a, y] H2 Q E
theorem pe_ixO {a b : Expr} {ta tb : TE} {pos : Pos} (hs : Meth X.K C "__getitem__" f) (hfn : PySem.W.fnIn X.K f = true) (F : FnOk X.prog X.w X.K X.mg X.base CX k f fd ps sp) (hr : Room (k + 1) X.A) (hb : Binds X.K fd ps []) (hx : Passes CX X E)
    (pa : PE X a ta) (pb : PE X b tb) (hsl : ∀ v u, subscripted b true v u = runValue (.builtin "lifetime.subscript" ⟨[v, u], []⟩) := by intro _ _; with_unfolding_all rfl) : PE X (.Subscript a b pos) (tIxO C sp E ta tb) := by
  refine ⟨fun pins s σ H Q I h => Subscript_ (binT pa pb I h fun v u s2 x y H2 I2 rx ry q => ?_)⟩
  obtain ⟨p, dx, fs, rfl, hp, q⟩ := q
  cases rx
  obtain ⟨od, J⟩ := inst_in I2 hp
  obtain ⟨m, hF⟩ := I2.fr
  exact PySem.W.sub_K hF I2.ok.mod.kin J hs.at_ hfn hs.fn (run_deep (vs := [.ref p, y]) F hr.in1 I2.env0.in1 hb hx I2 (.cons rfl (.cons ry .nil)) q) (hsl _ _)
end
end AE

set_option Elab.async false
set_option linter.all false
set_option maxRecDepth 100000
namespace AE
open PySem PySem.Spec PyProof.Rows L2 Evl
/-! slices from the front -/
theorem cutV_to (xs : List V) (k : Nat) : cutV xs none (some (k : Int)) = xs.take k := by
  unfold cutV
  rw [HT.sIx_none, HT.sIx_nat, List.drop_zero, Nat.sub_zero, List.take_eq_take_iff]
  omega
theorem cutV_from (xs : List V) (k : Nat) : cutV xs (some (k : Int)) none = xs.drop k := by
  unfold cutV
  rw [HT.sIx_none, HT.sIx_nat]
  by_cases h : k ≤ xs.length
  · rw [Nat.min_eq_left h]
    exact List.take_of_length_le (by rw [List.length_drop]; omega)
  · rw [Nat.min_eq_right (by omega), List.drop_length, List.drop_of_length_le (by omega), List.take_nil]
theorem cutV_mid (xs : List V) (a b : Nat) : cutV xs (some (a : Int)) (some (b : Int)) = (xs.take b).drop a := by
  unfold cutV
  rw [HT.sIx_nat, HT.sIx_nat, List.drop_take]
  by_cases h : a ≤ xs.length
  · rw [Nat.min_eq_left h, List.take_eq_take_iff, List.length_drop]
    omega
  · rw [List.drop_of_length_le (by omega), List.drop_of_length_le (by omega)]
    simp
theorem cutS_to (z : Str) (k : Nat) : cutS z none (some (k : Int)) = ⟨(z.cps.toList.take k).toArray⟩ := by
  unfold cutS
  have e : z.length = z.cps.toList.length := rfl
  rw [HT.sIx_none, HT.sIx_nat, List.drop_zero, Nat.sub_zero, e]
  congr 2
  rw [List.take_eq_take_iff]
  omega
theorem cutS_mid (z : Str) (a b : Nat) : cutS z (some (a : Int)) (some (b : Int)) = ⟨((z.cps.toList.take b).drop a).toArray⟩ := by
  unfold cutS
  have e : z.length = z.cps.toList.length := rfl
  rw [HT.sIx_nat, HT.sIx_nat, List.drop_take, e]
  congr 2
  by_cases h : a ≤ z.cps.toList.length
  · rw [Nat.min_eq_left h, List.take_eq_take_iff, List.length_drop]
    omega
  · rw [List.drop_of_length_le (by omega), List.drop_of_length_le (by omega)]
    simp
theorem join_signs : ∀ l : List Nat, Txt.join (Str.ofString "") (l.map fun c => ⟨#[c]⟩) = ⟨l.toArray⟩ := by
  have h : ∀ (l : List Nat), Str.join (Str.ofString "") (l.map fun c => (⟨#[c]⟩ : Str)) = ⟨l.toArray⟩ := by
    intro l
    induction l with
    | nil => rfl
    | cons c r ih =>
      cases r with
      | nil => rfl
      | cons d r =>
        have e : Str.join (Str.ofString "") ((c :: d :: r).map fun c => (⟨#[c]⟩ : Str)) = (⟨#[c]⟩ : Str) ++ Str.ofString "" ++ Str.join (Str.ofString "") ((d :: r).map fun c => (⟨#[c]⟩ : Str)) := rfl
        rw [e, ih]
        refine Str.ext' ?_
        rw [Str.cps_append, Str.cps_append]
        simp [Str.ofString]
        rfl
  intro l
  rw [← h l]
  show Builtin.Str.glued _ _ = _
  exact StrLaws.glued_eq_join _ _
end AE

set_option Elab.async false
set_option linter.all false
set_option maxRecDepth 100000
namespace AE
open PySem PySem.Spec PyProof.Rows L2 Evl
/-! ### xs[::2], xs[1::2] -/
def slIdx (lo : Option Int) (n : Nat) : List Nat := sliceRange (sliceBounds lo none (some 2) n).fst (sliceBounds lo none (some 2) n).snd.fst (sliceBounds lo none (some 2) n).snd.snd
def everyL {α : Type} (lo : Option Int) (xs : List α) : List α := (slIdx lo xs.length).filterMap fun i => xs[i]?
theorem every_map {α β : Type} (f : α → β) (lo : Option Int) (xs : List α) : everyL lo (xs.map f) = (everyL lo xs).map f := by
  unfold everyL
  rw [List.length_map, List.map_filterMap]
  congr 1
  funext i
  rw [List.getElem?_map]
theorem idx0 (n : Nat) : slIdx none n = (List.range ((n + 1) / 2)).map fun k => 2 * k := by
  unfold slIdx
  have e : sliceBounds none none (some 2) n = ((0 : Int), (n : Int), (2 : Int)) := rfl
  rw [e]
  unfold sliceRange
  by_cases h : (0 : Int) < n
  · simp only [show ((2 : Int) > 0) from by decide, if_true, h]
    rw [show (((n : Int) - 0 + 2 - 1) / 2).toNat = (n + 1) / 2 by omega]
    apply List.map_congr_left
    intro k hk
    omega
  · have z : n = 0 := by omega
    subst z
    rfl
theorem idx1 (n : Nat) : slIdx (some 1) n = (List.range (n / 2)).map fun k => 2 * k + 1 := by
  by_cases h : 1 ≤ n
  · have e : sliceBounds (some 1) none (some 2) n = ((1 : Int), (n : Int), (2 : Int)) := by
      show (max 0 (min (1 : Int) (n : Int)), ((n : Int), (2 : Int))) = _
      rw [show max 0 (min (1 : Int) (n : Int)) = 1 by omega]
    unfold slIdx
    rw [e]
    unfold sliceRange
    by_cases h2 : (1 : Int) < n
    · simp only [show ((2 : Int) > 0) from by decide, if_true, h2]
      rw [show (((n : Int) - 1 + 2 - 1) / 2).toNat = n / 2 by omega]
      apply List.map_congr_left
      intro k hk
      omega
    · have z : n = 1 := by omega
      subst z
      rfl
  · have z : n = 0 := by omega
    subst z
    rfl
theorem every_mem {α : Type} (xs : List α) (v : α) : v ∈ everyL none xs ++ everyL (some 1) xs ↔ v ∈ xs := by
  unfold everyL
  rw [idx0, idx1, List.mem_append, List.mem_filterMap, List.mem_filterMap]
  constructor
  · rintro (⟨i, _, h⟩ | ⟨i, _, h⟩)
    · exact List.mem_of_getElem? h
    · exact List.mem_of_getElem? h
  · intro h
    obtain ⟨i, hi, e⟩ := List.getElem_of_mem h
    have e' : xs[i]? = some v := by rw [List.getElem?_eq_getElem hi, e]
    by_cases z : i % 2 = 0
    · exact .inl ⟨i, List.mem_map.mpr ⟨i / 2, List.mem_range.mpr (by omega), by omega⟩, e'⟩
    · exact .inr ⟨i, List.mem_map.mpr ⟨i / 2, List.mem_range.mpr (by omega), by omega⟩, e'⟩
theorem every_len0 {α : Type} (xs : List α) : (everyL none xs).length ≤ (xs.length + 1) / 2 := by
  unfold everyL
  refine Nat.le_trans (List.length_filterMap_le _ _) ?_
  rw [idx0, List.length_map, List.length_range]
  exact Nat.le_refl _
theorem every_len1 {α : Type} (xs : List α) : (everyL (some 1) xs).length ≤ xs.length / 2 := by
  unfold everyL
  refine Nat.le_trans (List.length_filterMap_le _ _) ?_
  rw [idx1, List.length_map, List.length_range]
  exact Nat.le_refl _
theorem vals_pick {xs : List V} {its : List Value} (r : Vals xs its) : ∀ l : List Nat, Vals (l.filterMap fun i => xs[i]?) (l.filterMap fun i => its[i]?)
  | [] => .nil
  | i :: l => by
    have t := vals_pick r l
    cases e : xs[i]? with
    | none =>
      have e2 : its[i]? = none := by
        rw [List.getElem?_eq_none_iff] at e ⊢
        rw [← r.length]
        exact e
      rw [List.filterMap_cons_none e, List.filterMap_cons_none e2]
      exact t
    | some v =>
      obtain ⟨u, hu, rv⟩ := r.get e
      rw [List.filterMap_cons_some e, List.filterMap_cons_some hu]
      exact .cons rv t
theorem tups_pick {H : Hp} {us : List V} {xs : List (List V)} (t : Tups H us xs) : ∀ l : List Nat, Tups H (l.filterMap fun i => us[i]?) (l.filterMap fun i => xs[i]?)
  | [] => .nil
  | i :: l => by
    have r := tups_pick t l
    cases e : us[i]? with
    | none =>
      have e2 : xs[i]? = none := by
        rw [List.getElem?_eq_none_iff] at e ⊢
        rw [← t.len]
        exact e
      rw [List.filterMap_cons_none e, List.filterMap_cons_none e2]
      exact r
    | some v =>
      obtain ⟨u, hu, rv⟩ := t.get e
      rw [List.filterMap_cons_some e, List.filterMap_cons_some hu]
      exact .cons rv r
theorem tups_every {H : Hp} {us : List V} {xs : List (List V)} (lo : Option Int) (t : Tups H us xs) : Tups H (everyL lo us) (everyL lo xs) := by
  unfold everyL
  rw [t.len]
  exact tups_pick t _
theorem idx0_len (n : Nat) : (slIdx none n).length ≤ n := by
  rw [idx0, List.length_map, List.length_range]
  omega
theorem idx1_len (n : Nat) : (slIdx (some 1) n).length ≤ n := by
  rw [idx1, List.length_map, List.length_range]
  omega
def tStepL (K : PySem.W.Frag) (lo : Option Int) (te : TE) : TE := fun σ H Q => te σ H fun x H1 => ∃ a xs, x = .ref a ∧ SqL K H1 a xs ∧ ∀ p, H1 p = none → Q (.ref p) (upd H1 p (.lst (everyL lo xs)))
section
variable {X : Cx}
theorem pe_stepL {e : Expr} {te : TE} {k : Nat} {p1 p3 pos : Pos} {lo : Option Expr} {tl : TO} {l0 : Option Int} (he : PE X e te) (hl : PO X lo tl)
    (hl0 : ∀ σ H, tl σ H fun o H2 => o = l0 ∧ H2 = H) (hn : ∀ n, (slIdx l0 n).length ≤ n)
    (hw : ∀ v u : Value, subscripted (.Slice lo none (some (.Constant (.int 2) k p1)) p3) false v u = operate [v, u] (getItem v u) := by intro v u; with_unfolding_all rfl) :
    PE X (.Subscript e (.Slice lo none (some (.Constant (.int 2) k p1)) p3) pos) (tStepL X.K l0 te) := by
  refine ⟨fun pins s σ H Q I h => ?_⟩
  refine Subscript_ (thn (he.run pins s σ H _ I h) fun v s1 ⟨x, H1, I1, r1, q1⟩ => ?_)
  obtain ⟨a, xs, ex, hx, q⟩ := q1
  subst ex
  cases r1
  have hst : PO X (some (.Constant (.int 2) k p1)) (tPart (tC (.int 2))) := po_some pe_int
  refine wpAny_Slice (thn (hl.run pins s1 σ H1 (fun o H2 => o = l0 ∧ H2 = H1) I1 (hl0 σ H1)) fun vl s2 ⟨l, H2, I2, pl, el, e2⟩ => ?_)
  subst el e2
  refine thn (po_none.run pins s2 σ H2 (fun o H3 => o = none ∧ H3 = H2) I2 ⟨rfl, rfl⟩) fun vu s3 ⟨u, H3, I3, pu, eu, e3⟩ => ?_
  subst eu e3
  refine thn (hst.run pins s3 σ H3 (fun o H4 => o = some 2 ∧ H4 = H3) I3 ⟨2, rfl, rfl, rfl⟩) fun vs s4 ⟨o, H4, I4, ps, eo, e4⟩ => ?_
  subst eo e4
  have I5 : Inv X pins σ H4 { s4 with heap := s4.heap.push { cls := .type "slice", data := .fields #[vl, vu, vs] } } := I4.kept (t' := s4.toks) fun b ob q => Heap.get?_push_of_some _ q
  obtain ⟨its, r, ht, hz⟩ := I5.list hx
  have hlen := r.length
  show wpAny (model X.prog X.w) X.A (subscriptTail e (.Slice lo none (some (.Constant (.int 2) k p1)) p3) (.ref a) (.ref s4.heap.objs.size)) (EP X pins σ Q) X.xe { s4 with heap := s4.heap.push { cls := .type "slice", data := .fields #[vl, vu, vs] } }
  refine tail_any (ops := [.ref a, .ref s4.heap.objs.size]) ht.isList.typeIs (PySem.slot_list_getitem.lookup) ?_ (hw _ _)
  refine wpAny_getItem_list_slice ht.isList (Heap.IsSliceOf.new _ vl vu vs) pl pu ps (by decide) ?_ (by rw [List.size_toArray]; omega)
  have pk : slicePick its.toArray l none (some 2) = ((slIdx l xs.length).filterMap fun i => its[i]?).toArray := by
    unfold slicePick slIdx
    rw [List.size_toArray, ← hlen]
    congr 1
    congr 1
    funext i
    simp
  rw [pk]
  have hln : (everyL l xs).length ≤ sizeLine := Nat.le_trans (List.length_filterMap_le _ _) (Nat.le_trans (hn _) hz)
  refine ⟨.ref _, _, I5.laid (t' := s4.toks) (o := .lst (everyL l xs)) (fun b ob q => Heap.get?_push_of_some _ q) (Nat.le_refl _) ?_, rfl, q _ (I5.hok.fresh (Nat.le_refl _))⟩
  exact ⟨hln, _, 0, vals_pick r _, Heap.get?_push_size _ rfl⟩
end
end AE

set_option Elab.async false
set_option linter.all false
set_option maxRecDepth 100000
namespace AE
open PySem PySem.Spec PyProof.Rows L2 Evl
/-! ### a walk over an object whose __iter__ gives a tuple's iterator -/
def ttObj (b : Addr) : Obj := { cls := .type "tuple_iterator", data := .fields #[.ref b, .int 0 0] }
def TtO (b it : Addr) : HO := .ext fun h => h.get? it = some (ttObj b)
theorem ttO_ok {P : Program} {w : World} {H : Hp} {h : Heap} {b it : Addr} (e : h.get? it = some (ttObj b)) : ObjOk P w H h it (TtO b it) := ⟨e, ⟨_, e⟩, fun h1 h2 q k => k _ q⟩
def rIterT (K : PySem.W.Frag) : List V → Hp → VK → Prop := fun xs H Q => ∃ (b : Addr) (zs : List V), xs = [.ref b] ∧ SqT K H b zs ∧ ∀ it, H it = none → (∀ z o, H z = some o → z < it) → Q (.ref it) (upd H it (TtO b it))
section
variable {X : Cx}
theorem call_iterT : CallR X (.builtin "iter") (rIterT X.K) := by
  intro pins s σ H xs us Q I r h
  obtain ⟨l, zs, rfl, hq, q⟩ := h
  obtain rfl := Vals.ref1 r
  obtain ⟨its, rv, p, hz⟩ := I.tuple hq
  refine Calls.call_function_entry (by decide +kernel) (by decide +kernel) PySem.W.kdk_entry_iter (PySem.W.kdk_args_iter _) ?_
  unfold Builtin.«iter»
  refine wpAny_bind (m := someArgs "iter" 1 2 _) (wpAny_of_eq (a := [Value.ref l]) (by first | rfl | kernel_rfl!) ?_)
  show wpAny _ _ (pyIter (.ref l) >>= _) _ _ _
  refine wpAny_bind (wpAny_pyIter_tuple (show s.heap.IsTuple l its.toArray from p) ?_)
  refine wpAny_pure ⟨_, rfl, ?_⟩
  refine ⟨.ref s.heap.objs.size, _, I.laid (t' := s.toks) (o := TtO l s.heap.objs.size) (fun b u e => Heap.get?_push_of_some _ e) (Nat.le_refl _) (ttO_ok (Heap.get?_push_size _ rfl)), rfl, q _ (I.hok.fresh (Nat.le_refl _)) fun z o e => ?_⟩
  exact (I.hok z o e).lt
def cListN (K : PySem.W.Frag) (n : Nat) : List V → Hp → VK → Prop := fun xs H Q => ∃ a zs, xs = [.ref a] ∧ (SqL K H a zs ∨ SqT K H a zs) ∧ ∀ l, H l = none → n ≤ l → Q (.ref l) (upd H l (.lst zs))
/-- list(xs): a thing that is younger than the call -/
theorem c_listN : CallR X (.type "list") (cListN X.K X.s_0.heap.objs.size) := by
  intro pins s σ H xs us Q I r h
  obtain ⟨a, zs, rfl, hq, q⟩ := h
  obtain ⟨w1, rfl, rw1⟩ := vals1 r
  cases rw1
  have done : ∀ (its : List Value), Vals zs its → zs.length ≤ sizeLine → ∀ (h2 : Heap) (n2 : Nat), (∀ b ob, s.heap.get? b = some ob → h2.get? b = some ob) →
      h2.get? s.heap.objs.size = some { cls := .type "list", dict := none, data := .seq its.toArray n2, slots := #[] } → EP X pins σ Q (.ref s.heap.objs.size) { s with heap := h2 } := fun its rz sz h2 n2 keep at2 =>
    ⟨.ref s.heap.objs.size, _, I.laid (t' := s.toks) keep (Nat.le_refl _) (show ObjOk X.prog X.w _ h2 _ (.lst zs) from ⟨sz, its, n2, rz, at2⟩), rfl, q _ (I.hok.fresh (Nat.le_refl _)) I.sz⟩
  rcases hq with hq | hq
  · obtain ⟨its, rz, pl, sz⟩ := I.list hq
    have ln := rz.length
    obtain ⟨ob, h1, h2, m, h3⟩ := pl.isList
    exact call_list_seq a (.inl rfl) h1 h2 h3 (fun h' c' kp e => done its rz sz h' c' kp e) (by rw [List.size_toArray, ← ln]; exact sz)
  · obtain ⟨its, rz, pl, sz⟩ := I.tuple hq
    have ln := rz.length
    obtain ⟨ob, h1, h2, m, h3⟩ := pl
    exact call_list_seq a (.inr rfl) h1 h2 h3 (fun h' c' kp e => done its rz sz h' c' kp e) (by rw [List.size_toArray, ← ln]; exact sz)
structure ItM (K : PySem.W.Frag) (C f : Addr) : Prop where
  it : PySem.W.findIn K (.ref C) "__iter__" = some (some (.ref f))
  fn : PySem.W.isFn K (.ref f) = true
def iOwnT (K : PySem.W.Frag) (C : Addr) (sp : Sp) (E : XK) (n : Nat) (te : TE) : TI := fun σ H R => te σ H fun x H1 => ∃ a dx fs, x = .ref a ∧ H1 a = some (.ins C dx fs) ∧ (∃ z o, H1 z = some o ∧ n ≤ z) ∧
  sp [.ref a] H1 (fun v H2 => ∃ it b, v = .ref it ∧ H2 = upd H1 it (TtO b it) ∧ H1 it = none ∧ (∀ z o, H1 z = some o → z < it) ∧ (∃ xs, SqT K H1 b xs) ∧ R (Itt K b) H1) E
theorem look_tn : typeLookup (.type "tuple_iterator") "__next__" = pure (some (.builtin "tuple_iterator.__next__")) := by rw [typeLookup_type, builtinLookup_eq_fast]; kernel_rfl
theorem pi_ownT {CX : CXT} {k : Nat} {f C : Addr} {fd : FuncData} {ps : List Str} {sp : Sp} {E : XK} {tg e : Expr} {te : TE} (M : ItM X.K C f) (F : FnOk X.prog X.w X.K X.mg X.base CX k f fd ps sp) (hr : Room k X.A) (hb : Binds X.K fd ps []) (hx : Passes CX X E)
    (he : PE X e te) : PI X tg e (iOwnT X.K C sp E X.s_0.heap.objs.size te) := by
  refine ⟨fun pins s σ H R I h => ?_⟩
  refine thn (he.run pins s σ H _ I h) fun v s1 ⟨x, H1, I1, r1, q1⟩ => ?_
  obtain ⟨a, dx, fs, rfl, ha, ⟨z, o, hz, hn⟩, hsp⟩ := q1
  cases r1
  obtain ⟨od, J⟩ := inst_in I1 ha
  obtain ⟨m, hF⟩ := I1.fr
  refine PySem.W.owit_iter hF I1.ok.mod.kin J M.it M.fn ?_
  refine wpAny_mono (run_deep (vs := [.ref a]) F hr I1.env0 hb hx I1 (.cons rfl .nil) hsp) (fun u s2 hq => ?_) fun _ _ z => z
  obtain ⟨y, H2, I2, r2, it, b, rfl, rfl, h0, hlt, hxs, hR⟩ := hq
  cases r2
  have hget : s2.heap.get? it = some (ttObj b) := (I2.hok it _ upd_same).1
  have hT : s2.TypeIs (.ref it) "tuple_iterator" := ⟨_, hget, rfl⟩
  unfold PySem.W.OwitIt
  refine wpAny_specialOf (name := Str.ofString "__next__") hT look_tn ?_
  have hle : X.s_0.heap.objs.size ≤ it := Nat.le_of_lt (Nat.lt_of_le_of_lt hn (hlt z o hz))
  have I3 := ItX.inv_drop I2 upd_same
  have f3 := ItX.inv_fp I2 (u := TtO b it) upd_same hle
  rw [ItX.dropH_upd h0] at I3 f3
  refine ⟨it, [it], _, _, H1, rfl, I3, turn_tuple b it, ⟨_, hget, rfl, rfl⟩, fun c hc => ?_, hR⟩
  have e : c = it := by simpa using hc
  subst e
  exact f3
end
end AE

set_option Elab.async false
set_option linter.all false
set_option maxRecDepth 100000
namespace AE
open PySem PySem.Spec PyProof.Rows L2 Evl
/-! ### o[i] = v by an own __setitem__; what it may let out stands at the slots -/
section
variable {X : Cx} {pins : List (Addr × Obj)} {σ : L2.St} {H : Hp} {s : Shared} {f C : Addr} {fd : FuncData} {ps : List Str} {sp : Sp} {CX : CXT} {k : Nat} {Q : VK} {E : L2.St → XK} {vs : List V} {us : List Value}
theorem run_deepS {A : Around} (F : FnOk X.prog X.w X.K X.mg X.base CX k f fd ps sp) (hr : Room k A) (e0 : Env0 X.prog X.w X.K X.mg X.base A X.stack s H) (hb : Binds X.K fd ps []) (hx : PassesAt CX X σ (E σ))
    (I : Inv X pins σ H s) (r : Vals vs us) (h : sp vs H Q (E σ)) : wpAny (model X.prog X.w) A (call (.ref f) us) (EP X pins σ Q) X.xe s := by
  have hl : (us ++ []).length = ps.length := by
    rw [List.append_nil, ← r.length]
    exact F.len _ _ _ _ h
  have bb := hb s us I.kIn hl
  rw [List.append_nil] at bb
  refine wpAny_call (codeAny_mono (F.run A X.stack s H ⟨us, []⟩ us vs Q (E σ) hr e0 bb r h) fun r s' hq => ?_)
  cases r with
  | error e => exact hx pins H s e s' I hq
  | ok fl =>
    cases fl with
    | ret u => exact I.after hq
    | next => exact False.elim hq
    | brk => exact False.elim hq
    | cont => exact False.elim hq
def tSetO (C : Addr) (sp : Sp) (E : L2.St → XK) (tv to ti : TE) : TS := fun D σ H => tv σ H fun v H1 => to σ H1 fun x H2 => ti σ H2 fun y H3 => ∃ a dx fs, x = .ref a ∧ H3 a = some (.ins C dx fs) ∧ sp [.ref a, y, v] H3 (fun _ H4 => D.nx σ H4) (E σ)
theorem ps_setO {o i value : Expr} {tv to ti : TE} {pos' pos : Pos} (hs : Meth X.K C "__setitem__" f) (hq : PySem.W.noSeq X.K C = true) (F : FnOk X.prog X.w X.K X.mg X.base CX k f fd ps sp) (hr : Room k X.A) (hb : Binds X.K fd ps []) (hx : ∀ σ, PassesAt CX X σ (E σ))
    (hv : PE X value tv) (ho : PE X o to) (hi : PE X i ti) (hsw : swapsWith value (some (.Subscript o i pos')) pos.line X.env = pure false := by rfl) : PS X (.Assign [.Subscript o i pos'] value pos) (tSetO C sp E tv to ti) := by
  refine ⟨fun pins s σ H D I h => ?_⟩
  refine wpAny_Assign_Subscript (thn (hv.run pins s σ H _ I h) fun r s1 ⟨v, H1, I1, rv, q1⟩ => thn (ho.run pins s1 σ H1 _ I1 q1) fun u s2 ⟨x, H2, I2, rx, q2⟩ => thn (hi.run pins s2 σ H2 _ I2 q2) fun iv s3 ⟨y, H3, I3, ry, q3⟩ => ?_) hsw
  obtain ⟨a, dx, fs, rfl, ha, hsp⟩ := q3
  cases rx
  obtain ⟨od, J⟩ := inst_in I3 ha
  obtain ⟨m, hF⟩ := I3.fr
  refine PySem.W.ksp_setItem hF I3.ok.mod.kin J hq hs.at_ hs.fn ?_
  refine wpAny_mono (run_deepS (vs := [.ref a, y, v]) F hr I3.env0 hb (hx σ) I3 (.cons rfl (.cons ry (.cons rv .nil))) hsp) (fun u2 s4 hq4 => ?_) fun _ _ z => z
  obtain ⟨z, H4, I4, rz, q4⟩ := hq4
  exact ⟨σ, H4, I4, q4⟩
def rLenO (C : Addr) (sp : Sp) (E : XK) : List V → Hp → VK → Prop := fun xs H Q => ∃ a dx fs, xs = [.ref a] ∧ H a = some (.ins C dx fs) ∧ sp [.ref a] H (fun v H1 => ∃ n : Int, v = .int n ∧ 0 ≤ n ∧ n < 2 ^ 63 ∧ Q (.int n) H1) E
theorem c_lenO {E : XK} (hs : Meth X.K C "__len__" f) (F : FnOk X.prog X.w X.K X.mg X.base CX k f fd ps sp) (hr : Room (k + 1) X.A) (hb : Binds X.K fd ps []) (hx : Passes CX X E) : CallR X (.builtin "len") (rLenO C sp E) := by
  rintro pins s σ H xs us Q I r ⟨a, dx, fs, rfl, ha, q⟩
  cases r with
  | cons ra rt =>
    cases rt
    cases ra
    obtain ⟨od, J⟩ := inst_in I ha
    obtain ⟨m, hF⟩ := I.fr
    refine PySem.W.len_K hF I.ok.mod.kin J hs.at_ hs.fn (wpAny_mono (run_deep (vs := [.ref a]) F hr.in1 I.env0.in1 hb hx I (.cons rfl .nil) q) (fun r s1 hr => ?_) fun _ _ y => y)
    obtain ⟨v, H1, I1, rv, n, rfl, n0, n1, q1⟩ := hr
    obtain ⟨t, rfl⟩ := rv
    exact ⟨⟨n0, n1⟩, .int n, H1, I1.tok _, ⟨_, rfl⟩, q1⟩
/-- C() by a promise on rows -/
theorem pe_makeR0 {E : XK} {x : Str} {p pos : Pos} (M : Mk X.K C f) (F : FnR X.prog X.w X.K X.mg X.base CX k f sp) (hr : Room (k + 1) X.A) (hg : Gl X x) (hm : X.mg x = some (.ref C)) (hx : Passes CX X E) (hdb : (x == ("__debug__" : Str)) = false := by decide) :
    PE X (.Call (.Name x p) [] [] pos) (StX.tMakeR C sp E tNil) := by
  refine ⟨fun pins s σ H Q I h => ?_⟩
  refine wpAny_Call_Name_kw (ld_glob I hg hm ?_ hdb)
  exact PySem.W.callWith_K0 I.kIn M.kp (StX.run_makeR (us := []) M F hr hx I .nil h)
end
end AE

set_option Elab.async false
set_option linter.all false
set_option maxRecDepth 100000
/-! == of such values -/
namespace AE
open PySem PySem.Spec PyProof.Rows L2 Evl
theorem txn_ex {H H' : Hp} (e : Ex H H') : TxN H H' := fun a xs h => e _ _ h
mutual
def toD : NK → PyData
  | .non => .none
  | .int i => .int i
  | .str x => .str x
  | .tup ks => .tuple (toDs ks)
def toDs : List NK → List PyData
  | [] => []
  | k :: ks => toD k :: toDs ks
end
mutual
/-- its texts are of signs that stand -/
def okN : NK → Bool
  | .str x => PyData.strOk x
  | .tup ks => okNs ks
  | _ => true
def okNs : List NK → Bool
  | [] => true
  | k :: ks => okN k && okNs ks
end
theorem toDs_len : ∀ ks : List NK, (toDs ks).length = ks.length
  | [] => rfl
  | k :: ks => by rw [toDs, List.length_cons, List.length_cons, toDs_len ks]
theorem toDs_map : ∀ ks : List NK, toDs ks = ks.map toD
  | [] => rfl
  | k :: ks => by rw [toDs, List.map_cons, toDs_map ks]
theorem okNs_all : ∀ ks : List NK, okNs ks = ks.all okN
  | [] => rfl
  | k :: ks => by rw [okNs, List.all_cons, okNs_all ks]
mutual
theorem toD_lay : ∀ k : NK, okN k = true → (toD k).canLay0 = true
  | .non, _ => rfl
  | .int i, _ => rfl
  | .str x, h => by rw [okN] at h; rw [toD, PyData.canLay0]; exact h
  | .tup ks, h => by rw [okN] at h; rw [toD, PyData.canLay0]; exact toDs_lay ks h
theorem toDs_lay : ∀ ks : List NK, okNs ks = true → PyData.canLayAll0 (toDs ks) = true
  | [], _ => rfl
  | k :: ks, h => by
    rw [okNs, Bool.and_eq_true] at h
    rw [toDs, PyData.canLayAll0, toD_lay k h.1, toDs_lay ks h.2]
    rfl
end
mutual
theorem toD_depth : ∀ k : NK, (toD k).depth = k.depth
  | .non => by rw [toD, PyData.depth, NK.depth]; exact fun _ z => nomatch z
  | .int i => by rw [toD, PyData.depth, NK.depth]; exact fun _ z => nomatch z
  | .str x => by rw [toD, PyData.depth, NK.depth]; exact fun _ z => nomatch z
  | .tup ks => by rw [toD, PyData.depth, NK.depth, toDs_depth ks]
theorem toDs_depth : ∀ ks : List NK, PyData.depthAll (toDs ks) = NK.depths ks
  | [] => by rw [toDs, PyData.depthAll, NK.depths]
  | k :: ks => by rw [toDs, PyData.depthAll, NK.depths, toD_depth k, toDs_depth ks]
end
mutual
theorem toD_eqv : ∀ a b : NK, PyData.eqv (toD a) (toD b) = decide (a = b)
  | .non, .non => by simp [toD, PyData.eqv]
  | .non, .int _ => by simp [toD, PyData.eqv]
  | .non, .str _ => by simp [toD, PyData.eqv]
  | .non, .tup _ => by simp [toD, PyData.eqv]
  | .int i, .non => by simp [toD, PyData.eqv]
  | .int i, .int j => by
    simp only [toD, PyData.eqv, NK.int.injEq]
    by_cases h : i = j
    · subst h; simp
    · rw [decide_eq_false h]; exact beq_eq_false_iff_ne.mpr h
  | .int i, .str _ => by simp [toD, PyData.eqv]
  | .int i, .tup _ => by simp [toD, PyData.eqv]
  | .str i, .non => by simp [toD, PyData.eqv]
  | .str i, .int j => by simp [toD, PyData.eqv]
  | .str i, .str j => by
    simp only [toD, PyData.eqv, NK.str.injEq]
    by_cases h : i = j
    · subst h; simp
    · rw [decide_eq_false h]; exact beq_eq_false_iff_ne.mpr h
  | .str i, .tup _ => by simp [toD, PyData.eqv]
  | .tup ks, .non => by simp [toD, PyData.eqv]
  | .tup ks, .int j => by simp [toD, PyData.eqv]
  | .tup ks, .str j => by simp [toD, PyData.eqv]
  | .tup ks, .tup js => by
    simp only [toD, PyData.eqv, NK.tup.injEq]
    exact toDs_eqv ks js
theorem toDs_eqv : ∀ a b : List NK, PyData.eqvAll (toDs a) (toDs b) = decide (a = b)
  | [], [] => by simp [toDs, PyData.eqvAll]
  | [], _ :: _ => by simp [toDs, PyData.eqvAll]
  | _ :: _, [] => by simp [toDs, PyData.eqvAll]
  | x :: xs, y :: ys => by
    simp only [toDs, PyData.eqvAll, List.cons.injEq, Bool.decide_and, toD_eqv x y, toDs_eqv xs ys]
end
mutual
theorem nat_dp {K : PySem.W.Frag} {H : Hp} : ∀ {v : V} {k : NK}, NAt H v k → Dp K H v (toD k)
  | _, _, .non => by rw [toD]; exact .non
  | _, _, .int i => by rw [toD]; exact .int i
  | _, _, .str x => by rw [toD]; exact .str x
  | _, _, .tup h t => by rw [toD]; exact .tup (.inl (.inl h)) (nats_dp t)
theorem nats_dp {K : PySem.W.Frag} {H : Hp} : ∀ {vs : List V} {ks : List NK}, NAts H vs ks → DpAll K H vs (toDs ks)
  | _, _, .nil => by rw [toDs]; exact .nil
  | _, _, .cons h t => by rw [toDs]; exact .cons (nat_dp h) (nats_dp t)
end
theorem shp {k : NK} (o : okN k = true) (d : k.depth ≤ 64) : SeqAt.shaped (toD k) = true := by
  simp [SeqAt.shaped, toD_lay k o, toD_depth, d]
theorem shps {ks : List NK} (o : okNs ks = true) (d : NK.depths ks ≤ 63) : SeqAt.shaped (.list (toDs ks)) = true := by
  simp [SeqAt.shaped, PyData.canLay0, toDs_lay ks o, PyData.depth, toDs_depth, d]
theorem shpt {ks : List NK} (o : okNs ks = true) (d : NK.depths ks ≤ 63) : SeqAt.shaped (.tuple (toDs ks)) = true := by
  simp [SeqAt.shaped, PyData.canLay0, toDs_lay ks o, PyData.depth, toDs_depth, d]
section
variable {K : PySem.W.Frag} {H : Hp} {Q : VK} {x y : V} {a b : NK}
theorem r_eqN (hx : NAt H x a) (hy : NAt H y b) (o1 : okN a = true) (o2 : okN b = true) (d1 : a.depth ≤ 64) (d2 : b.depth ≤ 64) (q : Q (.bl (decide (a = b))) H) : rEqD K x y H Q :=
  ⟨_, _, nat_dp hx, nat_dp hy, shp o1 d1, shp o2 d2, by rw [toD_eqv]; exact q⟩
theorem r_neN (hx : NAt H x a) (hy : NAt H y b) (o1 : okN a = true) (o2 : okN b = true) (d1 : a.depth ≤ 64) (d2 : b.depth ≤ 64) (q : Q (.bl (!decide (a = b))) H) : rNeD K x y H Q :=
  ⟨_, _, nat_dp hx, nat_dp hy, shp o1 d1, shp o2 d2, by rw [toD_eqv]; exact q⟩
theorem r_eqL {p r : Addr} {xs ys : List V} {as bs : List NK} (hp : SqL K H p xs) (hr : SqL K H r ys) (hx : NAts H xs as) (hy : NAts H ys bs) (o1 : okNs as = true) (o2 : okNs bs = true) (d1 : NK.depths as ≤ 63) (d2 : NK.depths bs ≤ 63) (q : Q (.bl (decide (as = bs))) H) : rEqD K (.ref p) (.ref r) H Q :=
  ⟨_, _, .lst hp (nats_dp hx), .lst hr (nats_dp hy), shps o1 d1, shps o2 d2, by rw [show PyData.eqv (.list (toDs as)) (.list (toDs bs)) = PyData.eqvAll (toDs as) (toDs bs) by simp [PyData.eqv], toDs_eqv]; exact q⟩
theorem r_neL {p r : Addr} {xs ys : List V} {as bs : List NK} (hp : SqL K H p xs) (hr : SqL K H r ys) (hx : NAts H xs as) (hy : NAts H ys bs) (o1 : okNs as = true) (o2 : okNs bs = true) (d1 : NK.depths as ≤ 63) (d2 : NK.depths bs ≤ 63) (q : Q (.bl (!decide (as = bs))) H) : rNeD K (.ref p) (.ref r) H Q :=
  ⟨_, _, .lst hp (nats_dp hx), .lst hr (nats_dp hy), shps o1 d1, shps o2 d2, by rw [show PyData.eqv (.list (toDs as)) (.list (toDs bs)) = PyData.eqvAll (toDs as) (toDs bs) by simp [PyData.eqv], toDs_eqv]; exact q⟩
end
/-! rows of such values -/
theorem NAts.app {H : Hp} : ∀ {vs ws : List V} {ks ls : List NK}, NAts H vs ks → NAts H ws ls → NAts H (vs ++ ws) (ks ++ ls)
  | _, _, _, _, .nil, t => t
  | _, _, _, _, .cons h r, t => .cons h (r.app t)
theorem NAts.snoc {H : Hp} {v : V} {k : NK} {vs : List V} {ks : List NK} (t : NAts H vs ks) (h : NAt H v k) : NAts H (vs ++ [v]) (ks ++ [k]) := t.app (.cons h .nil)
theorem NAts.len {H : Hp} : ∀ {vs : List V} {ks : List NK}, NAts H vs ks → vs.length = ks.length
  | _, _, .nil => rfl
  | _, _, .cons _ t => by rw [List.length_cons, List.length_cons, t.len]
theorem NAts.get {H : Hp} : ∀ {vs : List V} {ks : List NK} {i : Nat} {v : V}, NAts H vs ks → vs[i]? = some v → ∃ k, ks[i]? = some k ∧ NAt H v k
  | _, _, 0, _, .cons h _, e => by
    have e' := Option.some.inj e
    exact ⟨_, rfl, e' ▸ h⟩
  | _, _, i + 1, v, .cons _ t, e => by
    obtain ⟨x, h1, h2⟩ := NAts.get (i := i) (v := v) t (by simpa using e)
    exact ⟨x, by simpa using h1, h2⟩
theorem NAts.rev {H : Hp} : ∀ {vs : List V} {ks : List NK}, NAts H vs ks → NAts H vs.reverse ks.reverse
  | _, _, .nil => .nil
  | _, _, .cons h t => by rw [List.reverse_cons, List.reverse_cons]; exact t.rev.snoc h
theorem NAt.new {H : Hp} {p : Addr} {xs : List V} {ks : List NK} (hp : H p = none) (t : NAts H xs ks) : NAt (upd H p (.tup xs)) (.ref p) (.tup ks) :=
  .tup upd_same (t.tx fun a ys h => by rw [upd_ne (ne_of_none h hp)]; exact h)
theorem NAt.tupOf {H : Hp} {v : V} {ks : List NK} (h : NAt H v (.tup ks)) : ∃ a xs, v = .ref a ∧ H a = some (.tup xs) ∧ NAts H xs ks := by
  cases h with
  | tup h t => exact ⟨_, _, rfl, h, t⟩
theorem NAts.cons_inv {H : Hp} {xs : List V} {k : NK} {ks : List NK} (h : NAts H xs (k :: ks)) : ∃ v vs, xs = v :: vs ∧ NAt H v k ∧ NAts H vs ks := by
  cases h with
  | cons h t => exact ⟨_, _, rfl, h, t⟩
theorem NAts.nil_inv {H : Hp} {xs : List V} (h : NAts H xs []) : xs = [] := by
  cases h
  rfl
theorem NAt.int_inv {H : Hp} {v : V} {i : Int} (h : NAt H v (.int i)) : v = .int i := by
  cases h
  rfl
theorem NAt.str_inv {H : Hp} {v : V} {i : Str} (h : NAt H v (.str i)) : v = .str i := by
  cases h
  rfl
theorem NAt.non_inv {H : Hp} {v : V} (h : NAt H v .non) : v = .non := by
  cases h
  rfl
theorem NAts.inv2 {H : Hp} {xs : List V} {a b : NK} (h : NAts H xs [a, b]) : ∃ u v, xs = [u, v] ∧ NAt H u a ∧ NAt H v b := by
  obtain ⟨u, r, rfl, h1, h⟩ := h.cons_inv
  obtain ⟨v, r, rfl, h2, h⟩ := h.cons_inv
  rw [h.nil_inv]
  exact ⟨_, _, rfl, h1, h2⟩
theorem NAts.inv3 {H : Hp} {xs : List V} {a b c : NK} (h : NAts H xs [a, b, c]) : ∃ u v z, xs = [u, v, z] ∧ NAt H u a ∧ NAt H v b ∧ NAt H z c := by
  obtain ⟨u, r, rfl, h1, h⟩ := h.cons_inv
  obtain ⟨v, z, rfl, h2, h3⟩ := h.inv2
  exact ⟨_, _, _, rfl, h1, h2, h3⟩
/-! a new tuple, a new list -/
def TupK (Q : VK) (xs : List V) (H : Hp) : Prop := xs.length ≤ sizeLine ∧ ∀ p, H p = none → Q (.ref p) (upd H p (.tup xs))
def LstK (Q : VK) (xs : List V) (H : Hp) : Prop := xs.length ≤ sizeLine ∧ ∀ p, H p = none → Q (.ref p) (upd H p (.lst xs))
section
variable {H : Hp} {Q : VK} {xs : List V} {ks : List NK} {σ : L2.St} {tr : TA}
theorem r_tupK (q : tr σ H fun xs H1 => TupK Q xs H1) : tTup tr σ H Q := q
theorem r_lstK (q : tr σ H fun xs H1 => LstK Q xs H1) : tLst tr σ H Q := q
theorem tup_go (hx : NAts H xs ks) (q : ∀ p H1, H p = none → Ex H H1 → NAt H1 (.ref p) (.tup ks) → H1 p = some (.tup xs) → Q (.ref p) H1) (n : xs.length ≤ 100000 := by first | exact Nat.le_of_ble_eq_true rfl | (simp only [List.length_map, List.length_cons, List.length_nil]; omega)) : TupK Q xs H :=
  ⟨sz_of n, fun p hp => q p _ hp (Ex.new hp) (NAt.new hp hx) upd_same⟩
theorem tup_go' (q : ∀ p H1, H p = none → Ex H H1 → H1 p = some (.tup xs) → Q (.ref p) H1) (n : xs.length ≤ 100000 := by first | exact Nat.le_of_ble_eq_true rfl | (simp only [List.length_map, List.length_cons, List.length_nil]; omega)) : TupK Q xs H :=
  ⟨sz_of n, fun p hp => q p _ hp (Ex.new hp) upd_same⟩
theorem lst_go (q : ∀ p H1, H p = none → Ex H H1 → H1 p = some (.lst xs) → Q (.ref p) H1) (n : xs.length ≤ 100000 := by first | exact Nat.le_of_ble_eq_true rfl | (simp only [List.length_map, List.length_cons, List.length_nil]; omega)) : LstK Q xs H :=
  ⟨sz_of n, fun p hp => q p _ hp (Ex.new hp) upd_same⟩
end
/-! xs[::-1]; an object made -/
section
variable {K : PySem.W.Frag} {H : Hp} {Q : VK} {σ : L2.St} {te : TE} {t tk : TA} {C : Addr} {sp : Sp} {E : XK} {dvs : List V} {n m : Nat} {gV : List V → List V → List V}
def RevK (K : PySem.W.Frag) (x : V) (H : Hp) (Q : VK) : Prop := ∃ a xs, x = .ref a ∧ SqL K H a xs ∧ ∀ p, H p = none → Q (.ref p) (upd H p (.lst xs.reverse))
theorem r_revL (q : te σ H fun x H1 => RevK K x H1 Q) : tRevL K te σ H Q := q
theorem rev_go {a : Addr} {xs : List V} (h : SqL K H a xs) (q : ∀ p H1, H p = none → Ex H H1 → H1 p = some (.lst xs.reverse) → Q (.ref p) H1) : RevK K (.ref a) H Q := ⟨a, xs, rfl, h, fun p hp => q p _ hp (Ex.new hp) upd_same⟩
def MkI (C : Addr) (f : Addr → List V) (sp : Sp) (E : XK) (H : Hp) (Q : VK) : Prop := ∀ x dx, H x = none → H dx = none → dx ≠ x → sp (f x) (upd (upd H dx (.own x)) x (.ins C dx [])) (fun v H3 => v = .non ∧ Q (.ref x) H3) E
theorem r_makeK (q : t σ H fun vs H1 => tk σ H1 fun zs H2 => vs.length = n ∧ zs.length = m ∧ MkI C (fun x => gV (.ref x :: vs) zs) sp E H2 Q) : tMakeK C n m sp gV E t tk σ H Q := q
theorem r_make (q : t σ H fun vs H1 => MkI C (fun x => .ref x :: (vs ++ dvs)) sp E H1 Q) : tMake C sp dvs E t σ H Q := q
theorem mki_go {f : Addr → List V} (q : ∀ x dx H1, H x = none → Ex H H1 → H1 x = some (.ins C dx []) → sp (f x) H1 (fun v H3 => v = .non ∧ Q (.ref x) H3) E) : MkI C f sp E H Q := fun x dx nx ndx ne => by
  have e1 : Ex H (upd H dx (.own x)) := Ex.new ndx
  have n2 : (upd H dx (.own x)) x = none := by rw [upd_ne (Ne.symm ne)]; exact nx
  exact q x dx _ nx (e1.trans (Ex.new n2)) upd_same
theorem ex_made {H1 H' : Hp} {x : Addr} (nx : H x = none) (e : Ex H H1) (c : Ch x H1 H') : Ex H H' := fun b o hb => c b o (ne_of_none hb nx) (e b o hb)
end
/-! two ways that meet again -/
theorem join_ite {b : Bool} {ts tu : TS} {D : Ends} {σ : L2.St} {H : Hp} (R : L2.St → Hp → Prop) (tail : ∀ σ' H', R σ' H' → D.nx σ' H') (body : ∀ D' : Ends, (∀ σ' H', R σ' H' → D'.nx σ' H') → if b = true then ts D' σ H else tu D' σ H) : if b = true then ts D σ H else tu D σ H := body D tail
/-! dicts of this kind, by steps -/
section
variable {w : World} {σ : L2.St} {H : Hp} {Q : VK} {D : Ends} {td ty tx tv : TE}
def SetdK (w : World) (a : Addr) (y z : V) (H : Hp) (Q : VK) : Prop := ∃ (kvs : List NE) (k : NK) (b : Addr), H a = some (dN w a kvs) ∧ KeysOk H kvs ∧ y = .ref b ∧ k.depth ≤ 8 ∧ NAt H (.ref b) k ∧ kvs.length < sizeLine ∧
  (∀ v, valN kvs k = some v → Q v H) ∧ (valN kvs k = none → Q z (upd H a (dN w a (putN kvs k b z))))
theorem r_setdN (q : td σ H fun x Ha => ∃ a, x = .ref a ∧ IsN w Ha a ∧ ty σ Ha fun y Hb => tx σ Hb fun z Hc => SetdK w a y z Hc Q) : tSetdN w td ty tx σ H Q := q
theorem setd_go {a b : Addr} {kvs : List NE} {k : NK} {z : V} (h : H a = some (dN w a kvs)) (hk : KeysOk H kvs) (hb : NAt H (.ref b) k) (d : k.depth ≤ 8) (l : kvs.length < 100000)
    (q1 : ∀ v, valN kvs k = some v → Q v H) (q2 : valN kvs k = none → ∀ H1, Ch a H H1 → H1 a = some (dN w a (kvs ++ [(k, b, z)])) → KeysOk H1 (kvs ++ [(k, b, z)]) → Q z H1) : SetdK w a (.ref b) z H Q :=
  ⟨kvs, k, b, h, hk, rfl, d, hb, by have := @sz_of 100000 (by decide); omega, q1, fun hn => by
    have e : putN kvs k b z = kvs ++ [(k, b, z)] := by unfold putN; rw [hn]; rfl
    rw [e]
    refine q2 hn _ ch_upd upd_same fun x hx => ?_
    have tx : TxN H (upd H a (dN w a (kvs ++ [(k, b, z)]))) := fun c ys ec => by rw [upd_ne (ne_of ec h (by intro z; cases z))]; exact ec
    rcases List.mem_append.mp hx with hx | hx
    · exact ⟨(hk x hx).1, (hk x hx).2.tx tx⟩
    · rw [List.mem_singleton.mp hx]
      exact ⟨d, hb.tx tx⟩⟩
def NGetK (w : World) (a : Addr) (y z : V) (H : Hp) (Q : VK) : Prop := ∃ o, NGet w H a y o ∧ Q (o.getD z) H
theorem r_nget2 (q : td σ H fun x H1 => ∃ a, x = .ref a ∧ IsN w H1 a ∧ ty σ H1 fun y H2 => tx σ H2 fun z H3 => NGetK w a y z H3 Q) : tNGet2 w td ty tx σ H Q := q
theorem nget_go {a b : Addr} {kvs : List NE} {k : NK} {z : V} (h : H a = some (dN w a kvs)) (hk : KeysOk H kvs) (hb : NAt H (.ref b) k) (d : k.depth ≤ 8) (q : Q ((valN kvs k).getD z) H) : NGetK w a (.ref b) z H Q :=
  ⟨_, ⟨kvs, k, b, .inl h, hk, rfl, d, hb, rfl⟩, q⟩
theorem isN_of {a : Addr} {kvs : List NE} (h : H a = some (dN w a kvs)) : IsN w H a := ⟨kvs, .inl h⟩
def NNewK (w : World) (H : Hp) (Q : VK) : Prop := ∀ p, H p = none → Q (.ref p) (upd H p (dN w p []))
theorem r_nnew (q : NNewK w H Q) : tNNew w σ H Q := q
theorem nnew_go (q : ∀ p H1, H p = none → Ex H H1 → H1 p = some (dN w p []) → Q (.ref p) H1) : NNewK w H Q := fun p hp => q p _ hp (Ex.new hp) upd_same
theorem valN_snoc (kvs : List NE) (k k' : NK) (b : Addr) (v : V) : valN (kvs ++ [(k, b, v)]) k' = (valN kvs k').or (if k = k' then some v else none) := by
  unfold valN
  rw [List.find?_append, List.find?_cons, List.find?_nil]
  by_cases h : k = k'
  · rw [if_pos h, decide_eq_true h]
    cases kvs.find? (fun x => decide (x.1 = k')) <;> rfl
  · rw [if_neg h, decide_eq_false h]
    cases kvs.find? (fun x => decide (x.1 = k')) <;> rfl
end
/-! heaps -/
theorem ex_txn {H H' : Hp} (e : Ex H H') : TxN H H' := fun _ _ h => e _ _ h
end AE

set_option Elab.async false
set_option linter.all false
set_option maxRecDepth 100000
set_option maxHeartbeats 2000000
/-! an own error's __init__: super().__init__(text), then fields -/
namespace AE
open PySem PySem.Spec PyProof.Rows L2 Evl
/-- the scope of a method that says super(): no cells, one name from outside, the class -/
structure SupScope (N ps : List Str) (sc : Scope) : Prop where
  kind : sc.kind = .function
  co : sc.isCoroutine = false
  gen : sc.isGenerator = false
  nd : N.Nodup
  pre : N.take ps.length = ps
  par : ∀ x ∈ ps, sc.names.lookup x = some .local
  nocell : ∀ y ∈ sc.names, y.2 ≠ .cell
  one : ∀ y ∈ sc.names, y.2 = .free → y.1 = ("__class__" : Str)
  hkc : sc.names.lookup ("__class__" : Str) = some .free
  hks : sc.names.lookup ("super" : Str) = some .globalImplicit
/-- its context -/
def cxS (P : Program) (w : World) (K : PySem.W.Frag) (mg : Str → Option Value) (base : Heap) (N : List Str) (qual : Str) (scope : Scope) (f : Addr) (cd : Value) (cc : Addr) (A : Around) (outer : List Env) (s : Shared) (H : Hp) : Cx :=
  { prog := P, w := w, K := K, mg := mg, base := base, A := A.deeper (PySem.W.ksEnv qual scope s.heap.objs.size f cd cc), N := N, s_0 := s, H_0 := H, env := PySem.W.ksEnv qual scope s.heap.objs.size f cd cc, outer := outer,
    stack := PySem.W.ksEnv qual scope s.heap.objs.size f cd cc :: outer, ex := [], calm := true, fn := fun _ => false, pn := [], xe := fun _ _ => False }
section
variable {P : Program} {w : World} {K : PySem.W.Frag} {mg : Str → Option Value} {base : Heap} {N ps : List Str} {qual : Str} {scope : Scope} {f : Addr} {cd : Value} {cc C : Addr} {A : Around} {outer : List Env} {s : Shared} {H : Hp} {us : List Value} {vs : List V}
theorem one_look {α : Type} {y x : Str} {c c' : α} (h : ([(x, c)] : List (Str × α)).lookup y = some c') : y = x ∧ c' = c := by
  by_cases e : y = x
  · subst e
    simp [List.lookup] at h
    exact ⟨rfl, h.symm⟩
  · have : (y == x) = false := by simpa using e
    simp [List.lookup, this] at h
theorem inv_startS {h1 : Heap} {tk : Nat} (S : SupScope N ps scope) (hd : A.handled = none) (e0 : Env0 P w K mg base A outer s H) (hl : vs.length = ps.length) (r : Vals vs us)
    (hcell : base.get? cc = some ({ cls := .type "cell", data := .cell (some (.ref C)) } : Obj) ∨ ∃ o : Obj, base.get? cc = some o ∧ o.data = .cell (some (.ref C)))
    (hns : h1.Ns s.heap.objs.size fun x => (ps.zip us).reverse.lookup x) (hk : ∀ b o, s.heap.get? b = some o → h1.get? b = some o) :
    Inv (cxS P w K mg base N qual scope f cd cc A outer s H) [] (L2.start N vs) H { s with heap := h1, toks := tk } := by
  have hpl : ps.length ≤ N.length := by
    have := congrArg List.length S.pre
    rw [List.length_take] at this
    omega
  obtain ⟨oc, hoc, hocd⟩ : ∃ o : Obj, base.get? cc = some o ∧ o.data = .cell (some (.ref C)) := by
    rcases hcell with h | h
    · exact ⟨_, h, rfl⟩
    · exact h
  have noA : ∀ b : Addr, b ∉ (cxS P w K mg base N qual scope f cd cc A outer s H).ex := fun b z => absurd (show b ∈ ([] : List Addr) from z) (by simp)
  have lk : ∀ {y : Str} {c : Addr}, (cxS P w K mg base N qual scope f cd cc A outer s H).env.cells.lookup y = some c → y = ("__class__" : Str) ∧ c = cc := fun h => one_look h
  have hH : H cc = none := (e0.bs _ _ hoc).2
  refine ⟨⟨e0.mod, S.kind, rfl, rfl, Nat.le_refl _, fun y z c h1 h2 => (lk h1).1.trans (lk h2).1.symm, fun y hy => ?_, fun y c h _ => Bool.noConfusion h, fun _ => hd, Around.frames_deeper e0.frames, .inr ⟨rfl, rfl⟩,
    fun b z => absurd z (noA b), e0.bs, e0.bsz, fun b _ _ => noA b, fun b z => absurd z (noA b), e0.funs, e0.frf⟩, rfl, e0.bare, Un.kept hk, ⟨_, hns, fun i y v h1 h2 h3 => ?_⟩,
    fun y c h => ⟨some (.ref C), ?_⟩, e0.hok.fresh (Nat.le_refl _), fun y c h => ?_, fun p hp => absurd (show p ∈ ([] : List (Addr × Obj)) from hp) (by simp), e0.hok.kept hk, ?_⟩
  · have hy : scope.names.lookup y = some .cell ∨ scope.names.lookup y = some .free := hy
    rcases hy with hy | hy
    · exact absurd rfl (S.nocell _ (PySem.mem_of_lookup hy))
    · have e := S.one _ (PySem.mem_of_lookup hy) rfl
      have e : y = ("__class__" : Str) := e
      subst e
      exact ⟨cc, rfl⟩
  · have hi : i < vs.length := by
      unfold L2.start at h2
      by_cases hi : i < vs.length
      · exact hi
      · rw [List.getElem?_append_right (by simpa using hi), List.getElem?_replicate] at h2
        split at h2 <;> cases h2
    have ha : vs[i]? = some v := by
      unfold L2.start at h2
      rw [List.getElem?_append_left (by simpa using hi), List.getElem?_map] at h2
      cases e : vs[i]? with
      | none => rw [e] at h2; cases h2
      | some a => rw [e] at h2; cases h2; rfl
    obtain ⟨u, hu, rv⟩ := r.get ha
    have hp : ps[i]? = some y := by
      rw [← S.pre, List.getElem?_take_of_lt (by omega)]
      exact h1
    have ndP : ps.Nodup := by
      rw [← S.pre]
      exact S.nd.sublist (List.take_sublist _ _)
    exact ⟨u, rv, .inl ⟨S.par y (List.mem_of_getElem? hp), NdefX.zip_look ndP hp hu⟩⟩
  · obtain ⟨_, rfl⟩ := lk h
    exact ⟨oc, hk _ _ (e0.bs _ _ hoc).1, hocd⟩
  · obtain ⟨_, rfl⟩ := lk h
    exact hH
  · unfold L2.start
    show _ = N.length
    rw [List.length_append, List.length_map, List.length_replicate]
    omega
end
/-! ### ValueError.__init__ through a method-wrapper -/
section
variable {X : Cx} {pins : List (Addr × Obj)} {σ : L2.St} {H : Hp} {s : Shared} {a C u : Addr} {E : Value → Shared → Prop} {A : Around}
theorem winit_ok {us : List Value} {Q : Value → Shared → Prop} (T : OexC X.K C) (I : Inv X pins σ H s) (e : H a = some (exo a C none)) (hu : s.heap.get? u = some (PySem.W.kxs_mw "ValueError.__init__" a)) (hl : us.length ≤ sizeLine) (h : ∀ s', Inv X pins σ H s' → Q .none s') :
    wpAny (model X.prog X.w) A (call (.ref u) us) Q E s := by
  obtain ⟨nm, q, N, bs, bm, sn, sub, ab, col, dd, k0, k1, k2, k3, k5, hC, hbm⟩ := T.cls
  obtain ⟨t1, ho⟩ := exo_at I.hok e
  have hCh := I.kIn _ _ hC
  obtain ⟨hp, g, d, t, os⟩ := s
  have fin : ∀ h' t2, (∀ b o, b ≠ a → hp.get? b = some o → h'.get? b = some o) → h'.get? a = some (PySem.HandSPX.excO C t2) → Q .none ⟨h', g, d, t, os⟩ := fun h' t2 k hx => by
    have J := I.write (t' := t) (x := a) (e := a) (o := exo a C none) (by rw [e]; exact True.intro) (.inl rfl) k ⟨_, hx⟩ (exo_ok hx)
    have eu : upd H a (exo a C none) = H := by
      funext b
      by_cases hb : b = a
      · rw [hb, upd_same, e]
      · rw [upd_ne hb]
    rw [eu] at J
    exact h _ J
  refine wpAny_call (codeAny_of_tree ?_)
  show wpAny _ A.in1 (callAny (.ref u) ⟨us, []⟩) _ _ _
  simp only [callAny]
  refine wpAny_bind (wpAny_load hu ?_)
  simp only [PySem.W.kxs_mw, show (Value.type "method-wrapper" == Value.type "method" || Value.type "method-wrapper" == Value.type "builtin_function_or_method" || Value.type "method-wrapper" == Value.type "method-wrapper") = true by decide, if_true]
  refine PySem.W.KFB.if_so (by decide) ?_
  refine wpAny_bind (PySem.ESX.check_bound F.excBase_ValueError hCh ho rfl ?_)
  refine wpAny_bind (wpAny_pure (wpAny_pure ?_))
  refine ⟨Code.quiet_builtin _ (by decide +kernel), codeAny_builtin F.excBase_ValueError.initEntry ?_⟩
  rw [Around.under_plainId F.excBase_ValueError.init.plain _]
  wp_walk
  refine fin _ hp.objs.size (fun b o hb hbo => ?_) ?_
  · rw [Heap.get?_update_other _ _ (Ne.symm hb)]
    exact Heap.get?_push_of_some _ hbo
  · rw [Heap.get?_update_self _ (Heap.get?_push_of_some _ ho) rfl]
    rfl
end
end AE

set_option Elab.async false
set_option linter.all false
set_option maxRecDepth 100000
set_option maxHeartbeats 4000000
namespace AE
open PySem PySem.Spec PyProof.Rows L2 Evl
/-- what the program's text tells of super() -/
structure SupOk (P : Program) (file : Str) : Prop where
  hfile : ((P.main.file : Str) == file) = true
  htop : (P.main.scope.names.lookup ("super" : Str)).isSome = false
/-- a method that says super(): its class C, the cell cc, its code at cda -/
structure SupFn (K : PySem.W.Frag) (name qual : Str) (st : Stmt) (C f cc cda : Addr) (file : Str) (fd : FuncData) : Prop where
  ex : ∃ (oc kV doc pm ct : Value) (od an : Option Addr) (osl : Array (Option Value)), fd = PySem.W.ksFn name qual (defArgs st) (defBody st) (defScope st) .none kV doc pm an (.ref cda) ct cc ∧ K.lookup f = some ⟨oc, od, .func fd, osl⟩
  code : PySem.W.codeIn K (.ref cda) qual = true
  cell : ∃ (o : Obj), K.lookup cc = some o ∧ o.data = .cell (some (.ref C))
  tab : ∃ (o : Obj) (vs : Array Value) (t : Tok), K.lookup cda = some o ∧ o.data = .fields vs ∧ vs[2]? = some (.str file t)
  kp : PySem.W.keepIn K (.ref f) = true
section
variable {P : Program} {w : World} {K : PySem.W.Frag} {mg : Str → Option Value} {base : Heap} {CX : CXT} {k : Nat} {name qual : Str} {st : Stmt} {C f cc cda : Addr} {file : Str} {fd : FuncData} {N ps : List Str} {sp : Sp}
/-- the rule for such an __init__ of an error over ValueError: super().__init__(e), then the rest -/
theorem SupFn.ok {p0 p1 ap pos pos2 jp : Pos} {parts : List Expr} {rest : List Stmt} {ar : Arg} (F : SupFn K name qual st C f cc cda file fd) (S : SupScope N ps (defScope st)) (O : SupOk P file) (T : OexC K C)
    (hbody : defBody st = .Expr (.Call (.Attribute (.Call (.Name "super" p0) [] [] p1) "__init__" ap) [.JoinedStr parts jp] [] pos) pos2 :: rest) (har : ((defArgs st).posonlyargs ++ (defArgs st).args).head? = some ar) (hps : ps.head? = some ar.arg)
    (hcall : ∀ L : Addr, ∃ pl : Sem Bool, eval (.Call (.Attribute (.Call (.Name "super" p0) [] [] p1) "__init__" ap) [.JoinedStr parts jp] [] pos) (PySem.W.ksEnv qual (defScope st) L f (.ref cda) cc) = (do
      let ov ← attributeBase (.Call (.Name "super" p0) [] [] p1) "__init__" (PySem.W.ksEnv qual (defScope st) L f (.ref cda) cc) (eval (.Call (.Name "super" p0) [] [] p1) (PySem.W.ksEnv qual (defScope st) L f (.ref cda) cc))
      standAt ap.atName
      let (g, first) ← holding [ov] (getMethod ov "__init__" pl)
      callWith pos g first (backTo pos (starEach [.JoinedStr parts jp] (PySem.W.ksEnv qual (defScope st) L f (.ref cda) cc))) []))
    (hsup : mg "super" = none) (hth : PySem.W.nsIn K PySem.cStatics "thirdparty.any" = some none) (hal : PySem.W.ks_superIn K C C "__init__" = some (some (.builtin "ValueError.__init__"))) (hVE : PySem.W.subIn K (.ref C) (.type "ValueError") = some true)
    (hmr : PySem.W.mroIn K C (.ref C) = some true)
    (len : ∀ vs H Q E, sp vs H Q E → vs.length = ps.length)
    (hb : ∀ (us : List Value), us.length = ps.length → bindArgs fd ⟨us, []⟩ = pure (ps.zip us))
    (hrun : ∀ (A : Around) (outer : List Env) (s : Shared) (H : Hp) (vs : List V) (Q : VK) (E : XK), Room k (A.deeper (PySem.W.ksEnv qual (defScope st) s.heap.objs.size f (.ref cda) cc)) → sp vs H Q E →
      ∃ (te : TE) (t : TS) (a : Addr) (r : List V), vs = .ref a :: r ∧ PE (cxS P w K mg base N qual (defScope st) f (.ref cda) cc A outer s H) (.JoinedStr parts jp) te ∧ PSs (cxS P w K mg base N qual (defScope st) f (.ref cda) cc A outer s H) rest t ∧ H a = some (exo a C none) ∧
        tCons te tNil (L2.start N vs) H fun ws H1 => ws.length ≤ 1000 ∧ H1 a = some (exo a C none) ∧ t { nx := fun _ H' => Q .non H', rt := Q } (L2.start N vs) H1) :
    FnOk P w K mg base CX (k + 1) f fd ps sp := by
  obtain ⟨oc, kV, doc, pm, ct, od, an, osl, rfl, lk⟩ := F.ex
  refine ⟨len, fun A outer s H args us vs Q E hr e0 hbt r hsp => ?_⟩
  have hl := len _ _ _ _ hsp
  have KX : K.In s.heap := e0.mod.kin.keeps fun b o e => (e0.bs b o e).1
  have lim : s.heap.NoLimit := e0.mod.nolimit.keeps fun b o e => (e0.bs b o e).1
  have hloc : ∀ y ∈ ps.zip us, (defScope st).names.lookup y.1 = some .local := fun ⟨n, v⟩ hy => S.par n (List.of_mem_zip hy).1
  obtain ⟨ocell, hcl, hcd⟩ := F.cell
  obtain ⟨otab, tvs, ttok, htab, htd, hfv⟩ := F.tab
  refine ks_codeAny_call_defAt (binds := ps.zip us) hr.depth (KX _ _ lk) rfl lim (PySem.W.codeRec_of KX F.code) rfl hbt S.nocell hloc (fun h1 hns hk1 => ?_) S.co S.gen S.kind
  obtain ⟨te, t, a, rr, rfl, he, ht, ha, hq⟩ := hrun A outer s H vs Q E (hr.deeper _) hsp
  have I : L2.Inv (cxS P w K mg base N qual (defScope st) f (.ref cda) cc A outer s H) [] (L2.start N (.ref a :: rr)) H { s with heap := h1, toks := s.toks + (ps.zip us).length } :=
    inv_startS (C := C) S hr.hd e0 hl r (.inr ⟨ocell, e0.mod.kin _ _ hcl, hcd⟩) hns hk1
  have fin : ∀ {pins : List (Addr × Obj)} {σ' : L2.St} {H' : Hp} {v : V} {u : Value} {s' : Shared}, L2.Inv (cxS P w K mg base N qual (defScope st) f (.ref cda) cc A outer s H) pins σ' H' s' → RelV v u → Q v H' → CE outer P w H s Q u s' :=
    fun {pins σ' H' v u s'} J rv q => ⟨v, H', J.os, J.bare, J.base, J.hok, rv, q⟩
  have hx : ∀ env, execs (defBody st) env = execs (.Expr (.Call (.Attribute (.Call (.Name "super" p0) [] [] p1) "__init__" ap) [.JoinedStr parts jp] [] pos) pos2 :: rest) env := fun env => by rw [hbody]
  change PySem.wpAt (model P w) (A.deeper (PySem.W.ksEnv qual (defScope st) s.heap.objs.size f (.ref cda) cc)) (.func (defBody st) (PySem.W.ksEnv qual (defScope st) s.heap.objs.size f (.ref cda) cc)) (execs (defBody st) (PySem.W.ksEnv qual (defScope st) s.heap.objs.size f (.ref cda) cc)) _ _ _
  rw [hx]
  have KX1 : K.In h1 := fun b o q => hk1 b o (KX b o q)
  obtain ⟨nm, q, N2, bs, bm, sn, sub, ab, col, dd, k0, k1, k2, k3, k5, hC, hbm⟩ := T.cls
  have hcls : PySem.W.clsIn K C = some { name := nm, bases := bs, mro := .ref C :: bm, ns := N2, qualname := q, hasDict := true, slotNames := sn, subclasses := sub, abstract := ab, collection := col, hasDel := false } := by unfold PySem.W.clsIn; rw [hC] <;> rfl
  obtain ⟨t1, hoa⟩ := exo_at I.hok ha
  have Ia : PySem.W.InstAt h1 a { cls := .ref C, dict := none, data := .fields #[.ref t1, .none, .none, .none, .bool false, .none] } C none := ⟨hoa, rfl, rfl, trivial⟩
  obtain ⟨u0, ur, rfl, ra, rr'⟩ : ∃ u0 ur, us = u0 :: ur ∧ RelV (.ref a) u0 ∧ Vals rr ur := by
    cases r with
    | cons h t => exact ⟨_, _, rfl, h, t⟩
  obtain rfl : u0 = Value.ref a := ra
  have hself : (ps.zip (Value.ref a :: ur)).reverse.lookup ar.arg = some (.ref a) := by
    have ndP : ps.Nodup := by
      rw [← S.pre]
      exact S.nd.sublist (List.take_sublist _ _)
    refine NdefX.zip_look (i := 0) ndP ?_ rfl
    rw [← List.head?_eq_getElem?]
    exact hps
  have hslo : (defScope st).names.lookup ar.arg = some .local := S.par _ (List.mem_of_mem_head? (by rw [hps]; exact Option.mem_some_self _))
  have hnoLim : True := trivial
  obtain ⟨mb, hmb, hmb2⟩ := e0.mod.blt
  have glb : h1.Ns mainGlobals mg := e0.mod.glob.keeps fun b o z => hk1 b o (e0.bs b o z).1
  have blb : h1.Ns builtinsNs mb := hmb.keeps fun b o z => hk1 b o (e0.bs b o z).1
  obtain ⟨pl, hpl⟩ := hcall s.heap.objs.size
  have hint : interactive (PySem.W.ksEnv qual (defScope st) s.heap.objs.size f (.ref cda) cc) = false := by
    unfold interactive
    rw [show (PySem.W.ksEnv qual (defScope st) s.heap.objs.size f (.ref cda) cc).scope.kind = .function from S.kind]
    rfl
  refine ks_wpAt_execs_cons (ks_wpAt_Expr_any (hi := hint) (ks_wpAt_MethodCall (he := hpl) ?_))
  refine ks_wpAt_super_base (env := PySem.W.ksEnv qual (defScope st) s.heap.objs.size f (.ref cda) cc) S.hks S.hkc (by decide) rfl (KX1 _ _ lk) rfl har rfl (KX1 _ _ htab) htd hfv O.hfile O.htop ?_
  refine PySem.W.ks_loadName_global S.kind S.hks (Calls.loadGlobal_builtin (env := PySem.W.ksEnv qual (defScope st) s.heap.objs.size f (.ref cda) cc) glb hsup blb ((hmb2 _ (by decide)).trans (by decide +kernel : bootBuiltins "super" = some (.type "super"))) ⟨rfl, ?_⟩)
  refine wpAny_loadName_free S.kind S.hkc rfl ⟨_, KX1 _ _ hcl, hcd⟩ ?_
  refine wpAny_loadName_local S.kind hslo hns hself ?_
  refine ks_wpAny_isType_cls (KX1 _ _ hC) rfl ⟨rfl, ?_⟩
  refine ks_wpAny_call_super (KX1 _ _ hC) rfl Ia.at_ Ia.cls (fun c e => nomatch e) (PySem.W.looks_mroIn KX1 hmr) (fun h2 e2 kk2 => ?_)
  have KX2 : K.In h2 := fun b o z => kk2 b o (KX1 b o z)
  have Ia2 : PySem.W.InstAt h2 a { cls := .ref C, dict := none, data := .fields #[.ref t1, .none, .none, .none, .bool false, .none] } C none := ⟨kk2 _ _ hoa, rfl, rfl, trivial⟩
  have hal' : PySem.W.alongIn K "__init__" (((Value.ref C :: bm).dropWhile (· != .ref C)).drop 1) = some (some (.builtin "ValueError.__init__")) := by
    unfold PySem.W.ks_superIn at hal
    rw [hcls] at hal
    exact hal
  have sz12 : h1.objs.size < h2.objs.size := Heap.lt_size e2
  have hlt : s.heap.objs.size < h1.objs.size := I.lt
  refine PySem.W.kxs_getMethod PySem.W.kxs_ValueError e2 (PySem.W.looks_opaque KX2 hth) (l₀ := .ref C :: bm) (fun A Q E s k q => wpAny_bind ((PySem.W.looks_clsIn KX2 hcls) A _ E s k (wpAny_pure q))) rfl KX2 hal'
    (Ia2.type.andThen (PySem.W.looks_subIn KX2 hVE)) (PySem.W.ks_ne KX2 Ia2 hcls) (by decide) ?_
  have k3 : ∀ b o, h1.get? b = some o → (h2.push (PySem.W.kxs_mw "ValueError.__init__" a)).get? b = some o := fun b o z => Heap.get?_push_of_some _ (kk2 b o z)
  have I3 := I.kept (t' := s.toks + (ps.zip (Value.ref a :: ur)).length + 1) k3
  have hu3 : (h2.push (PySem.W.kxs_mw "ValueError.__init__" a)).get? h2.objs.size = some (PySem.W.kxs_mw "ValueError.__init__" a) := Heap.get?_push_at rfl rfl
  have I4 := I3.pins_of (pins' := [(h2.objs.size, PySem.W.kxs_mw "ValueError.__init__" a)]) (fun p hp => by
    obtain rfl := List.mem_singleton.mp hp
    refine ⟨hu3, I.hok.fresh (Nat.le_of_lt sz12), ?_, I.nofs (Nat.le_of_lt sz12), fun v z => ?_⟩
    · intro z
      have z' : h2.objs.size = s.heap.objs.size := z
      omega
    · cases z)
  refine PySem.W.kxs_callWith (i := "ValueError.__init__") (x := a) rfl (Calls.evalArgs_plain ?_)
  refine wpAny_mono ((pa_cons he pa_nil).run pos _ _ _ _ _ I4 hq) (fun us2 s5 hs5 => ?_) (fun _ _ z => z.elim)
  obtain ⟨vs5, H5, I5, r5, l5, ha5, q5⟩ := hs5
  have hu5 : s5.heap.get? h2.objs.size = some (PySem.W.kxs_mw "ValueError.__init__" a) := (I5.pin (h2.objs.size, PySem.W.kxs_mw "ValueError.__init__" a) (List.mem_append_right _ (List.mem_singleton.mpr rfl))).1
  refine ⟨hu5, ?_⟩
  have hl5 : us2.length ≤ sizeLine := by
    rw [← Paired.length r5, sizeLine_eq]
    omega
  refine winit_ok T I5 ha5 hu5 hl5 fun s6 I6 => ?_
  refine wpAt_of_wpAny ?_
  refine wpAny_mono (ht.run _ s6 _ H5 _ I6 q5) (fun fl s' hs => ?_) (fun _ _ z => z.elim)
  cases fl with
  | ret u =>
    obtain ⟨v, σ', H', J, rv, q⟩ := hs
    exact fin J rv q
  | next =>
    obtain ⟨σ', H', J, q⟩ := hs
    exact fin (v := V.non) (u := Value.none) J rfl q
  | brk =>
    obtain ⟨_, _, _, q⟩ := hs
    exact False.elim q
  | cont =>
    obtain ⟨_, _, _, q⟩ := hs
    exact False.elim q
end
end AE

set_option Elab.async false
set_option linter.all false
set_option maxRecDepth 100000
set_option maxHeartbeats 2000000
/-! own errors with fields: made, raised, caught, asked -/
namespace AE
open PySem PySem.Spec PyProof.Rows L2 Evl
/-- what an __init__ of such an error leaves: names its fields in order, ok what it wants of the arguments -/
def sp_err (C : Addr) (names : List Str) (ok : List V → Hp → Prop) : Sp := fun vs H Q _ => ∃ (a : Addr) (ws : List V), vs = .ref a :: ws ∧ ws.length = names.length ∧ H a = some (exo a C none) ∧ ok ws H ∧
  ∀ d H', H d = none → (∀ b o, b ≠ a → H b = some o → H' b = some o) → H' a = some (exo a C (some d)) → H' d = some (exd d (names.zip ws).reverse) → Q .non H'
/-- C(e, ..) of such an error -/
def MkOK (C : Addr) (sp : Sp) (vs : List V) (H : Hp) (Q : XK) : Prop := vs.length ≤ 1000 ∧ ∀ a, H a = none → sp (.ref a :: (vs ++ [])) (upd H a (exo a C none))
  (fun v H2 => v = .non ∧ ∃ (d : Addr) (fs : List (Str × V)), H2 a = some (exo a C (some d)) ∧ H2 d = some (exd d fs) ∧ H d = none ∧ Q (.ref C) (some d) (upd (L2.del H2 a) d (.xd fs))) (fun _ _ _ => False)
section
variable {K : PySem.W.Frag} {C : Addr} {sp : Sp} {ta : TA} {σ : L2.St} {H : Hp} {Q : XK} {D : Ends} {names : List Str} {ok : List V → Hp → Prop} {vs : List V}
theorem r_mkO (q : ta σ H fun vs H1 => MkOK C sp vs H1 Q) : tMkO C sp [] ta σ H Q := q
theorem mko_go (hl : vs.length = names.length) (hz : names.length ≤ 1000) (hok : ∀ a H1, H a = none → Ex H H1 → ok vs H1) (q : ∀ d H', Ex H H' → H d = none → H' d = some (.xd (names.zip vs).reverse) → Q (.ref C) (some d) H') : MkOK C (sp_err C names ok) vs H Q := by
  refine ⟨by omega, fun a na => ?_⟩
  rw [List.append_nil]
  refine ⟨a, vs, rfl, hl, upd_same, hok a _ na (Ex.new na), fun d H' nd hk ha hd => ⟨rfl, d, _, ha, hd, ?_, ?_⟩⟩
  · have nda : d ≠ a := fun z => by rw [z, upd_same] at nd; cases nd
    rw [upd_ne nda] at nd
    exact nd
  · have nda : d ≠ a := fun z => by rw [z, upd_same] at nd; cases nd
    rw [upd_ne nda] at nd
    refine q d _ (fun b o hb => ?_) nd upd_same
    have ba : b ≠ a := ne_of_none hb na
    have bd : b ≠ d := ne_of_none hb nd
    rw [upd_ne bd, del_ne ba]
    exact hk b o ba (by rw [upd_ne ba]; exact hb)
end
/-! self.f = e on an error that is being made -/
section
variable {K : PySem.W.Frag} {C a : Addr} {σ : L2.St} {H : Hp} {D : Ends} {to te : TE} {f : Str} {y : V}
def OstK (K : PySem.W.Frag) (f : Str) (x y : V) (H : Hp) (R : Hp → Prop) : Prop := ∃ a C : Addr, x = .ref a ∧ OexC K C ∧ PySem.W.findIn K (.ref C) f = some none ∧
  ((H a = some (exo a C none) ∧ ∀ dx, H dx = none → dx ≠ a → R (upd (upd H dx (exd dx [(f, y)])) a (exo a C (some dx)))) ∨
    ∃ (dx : Addr) (fs : List (Str × V)), H a = some (exo a C (some dx)) ∧ H dx = some (exd dx fs) ∧ fs.length ≤ 900 ∧ R (upd H dx (exd dx ((f, y) :: fs))))
theorem r_ost (q : te σ H fun y H1 => to σ H1 fun x H2 => OstK K f x y H2 (D.nx σ)) : tOst K f to te D σ H := q
theorem ost_first {R : Hp → Prop} (h : H a = some (exo a C none)) (T : OexC K C) (n : PySem.W.findIn K (.ref C) f = some none)
    (q : ∀ dx H1, H dx = none → (∀ b o, b ≠ a → H b = some o → H1 b = some o) → H1 a = some (exo a C (some dx)) → H1 dx = some (exd dx [(f, y)]) → R H1) : OstK K f (.ref a) y H R :=
  ⟨a, C, rfl, T, n, .inl ⟨h, fun dx nd ne => q dx _ nd (fun b o hb hbo => by rw [upd_ne hb, upd_ne (ne_of_none hbo nd)]; exact hbo) upd_same (by rw [upd_ne ne, upd_same])⟩⟩
theorem ost_next {R : Hp → Prop} {dx : Addr} {fs : List (Str × V)} (h : H a = some (exo a C (some dx))) (hd : H dx = some (exd dx fs)) (l : fs.length ≤ 900) (T : OexC K C) (n : PySem.W.findIn K (.ref C) f = some none) (ne : a ≠ dx)
    (q : ∀ H1, Ch dx H H1 → H1 a = some (exo a C (some dx)) → H1 dx = some (exd dx ((f, y) :: fs)) → R H1) : OstK K f (.ref a) y H R :=
  ⟨a, C, rfl, T, n, .inr ⟨dx, fs, h, hd, l, q _ ch_upd (by rw [upd_ne ne]; exact h) upd_same⟩⟩
end
/-! isinstance(e, c), e an error with fields that the suite holds -/
def rIsD (K : PySem.W.Frag) (D a dd : Addr) : List V → Hp → VK → Prop := fun xs H Q => ∃ (c : V) (cv : Value) (b : Bool) (fs : List (Str × V)), xs = [.ref a, c] ∧ H dd = some (.xd fs) ∧ (∀ u, RelV c u → u = cv) ∧ PySem.W.kitOne K (.ref D) cv = some b ∧ Q (.bl b) H
theorem call_isD {X : Cx} {a D dd : Addr} {oe : Obj} {pn : List (Addr × Obj)} (C : ExcC X.K D) (hz : Zc (.ref D) (some dd) oe) (hf : ∃ vs, oe.data = .fields vs) : CallR (X.suite a ((a, oe) :: pn)) (.builtin "isinstance") (rIsD X.K D a dd) := by
  intro pins s σ H xs us Q I r h
  obtain ⟨c, cv, b, fs, rfl, hdd, hcv, e, q⟩ := h
  cases r with
  | cons rx rr =>
    cases rr with
    | cons rt rr =>
      cases rr
      cases rx
      have ec := hcv _ rt
      subst ec
      obtain ⟨hget, _⟩ := I.pin (a, oe) (List.mem_append.mpr (.inl List.mem_cons_self))
      obtain ⟨vs, hv⟩ := hf
      have hx : ObjOk X.prog X.w H s.heap dd (.xd fs) := I.hok dd _ hdd
      obtain ⟨mA, hns, _⟩ := hx
      obtain ⟨od, ho, _⟩ := lookIn_ns hns
      have J : PySem.W.InstAt s.heap a oe D (some od) := ⟨hget, hz.1, by unfold PySem.W.notCls; rw [hv] <;> rfl, by rw [hz.2]; exact ho⟩
      have hcl : (PySem.W.clsIn X.K D).isSome = true := by
        have q := C.hd
        unfold PySem.W.hasDictIn at q
        cases z : PySem.W.clsIn X.K D with
        | none => rw [z] at q; cases q
        | some _ => rfl
      exact PySem.W.kia_one (PySem.W.kitx_exc hcl C.hg C.hk C.hs C.ha C.hn C.ht C.hm) I.kIn J e (fun z => nomatch z) fun tk => ⟨.bl b, H, I.kept (t' := tk) fun _ _ z => z, rfl, q⟩
/-! the pieces of an f-string, with a bound on what stands -/
section
variable {σ : L2.St} {H : Hp} {Q : Str → Hp → Prop} {ts : List TE} {acc : Str} {n m : Nat}
theorem len_app (a b : Str) : (a ++ b).length = a.length + b.length := by
  show (a ++ b).cps.size = _
  rw [Str.cps_append, Array.size_append]
  rfl
theorem js_c {y : Str} (ha : acc.length ≤ n) (ly : y.length ≤ m) (hs : n + m ≤ 100000) (q : (acc ++ y).length ≤ n + m → tJs ts (acc ++ y) σ H Q) : tJs (tC (.str y) :: ts) acc σ H Q := by
  have l : (acc ++ y).length ≤ n + m := by rw [len_app]; omega
  exact ⟨y, rfl, Nat.le_trans l (sz_of hs), q l⟩
theorem js_s {i : Nat} {x : Str} (h : σ[i]? = some (some (.str x))) (ha : acc.length ≤ n) (lx : x.length ≤ m) (hs : n + m ≤ 100000) (q : (acc ++ x).length ≤ n + m → tJs ts (acc ++ x) σ H Q) : tJs (tFmt (tVar i) :: ts) acc σ H Q := by
  have l : (acc ++ x).length ≤ n + m := by rw [len_app]; omega
  exact ⟨_, h, .inl ⟨x, rfl, Nat.le_trans lx (sz_of (by omega)), x, rfl, Nat.le_trans l (sz_of hs), q l⟩⟩
theorem js_i {i : Nat} {e : Int} (h : σ[i]? = some (some (.int e))) (ha : acc.length ≤ n) (he : 0 ≤ e ∧ e < 10 ^ 9) (hs : n + 10 ≤ 100000) (q : ∀ y : Str, (acc ++ y).length ≤ n + 10 → tJs ts (acc ++ y) σ H Q) : tJs (tFmt (tVar i) :: ts) acc σ H Q := by
  have ll : e.natAbs.log2 < 1920 := by
    by_cases h0 : e.natAbs = 0
    · rw [h0]; decide
    · have := (Nat.log2_lt h0 (k := 40)).mpr (by omega)
      omega
  have lx : (Str.ofString (toString e)).length ≤ 10 := toString_length_le he.1 (by decide) (by omega)
  have l : (acc ++ Str.ofString (toString e)).length ≤ n + 10 := by rw [len_app]; omega
  exact ⟨_, h, .inr ⟨e, rfl, ll, Str.ofString (toString e), rfl, Nat.le_trans l (sz_of hs), q _ l⟩⟩
end
/-- an error of the class at S is what «except S» names -/
theorem exm_selfE {K : PySem.W.Frag} {S : Addr} (h1 : PySem.W.subIn K (.ref S) (.type "BaseException") = some true) (h2 : PySem.W.isClsIn K S = true) (h3 : PySem.W.typeIn K (.ref S) = some (.type "type")) (h4 : PySem.W.subIn K (.ref S) (.ref S) = some true) :
    PySem.W.exmOne K (.ref S) (.ref S) = some true := by
  have h2' : (PySem.W.clsIn K S).isSome = true := h2
  unfold PySem.W.exmOne PySem.W.kitCls
  simp only [h1, h2', h3, h4, beq_self_eq_true, Bool.and_self, if_true]
/-- all that is asked of an own error class over the errors' base: at C, its __init__ f -/
structure ErrT (K : PySem.W.Frag) (C : Addr) (qual : Str) (st : Stmt) (f : Addr) (fd : FuncData) (file : Str) (ps names : List Str) where
  oex : OexC K C
  cc : Addr
  cda : Addr
  fn : SupFn K "__init__" qual st C f cc cda file fd
  xf : XfC K C
  ex : ExcC K C
  no : ∀ n ∈ names, PySem.W.findIn K (.ref C) n = some none
  ini : PySem.W.findIn K (.ref C) "__init__" = some (some (.ref f))
  ti : PySem.W.typeIn K (.ref f) = some (.type "function")
  te : PySem.W.exmOne K (.ref C) (.ref C) = some true
  al : PySem.W.ks_superIn K C C "__init__" = some (some (.builtin "ValueError.__init__"))
  ve : PySem.W.subIn K (.ref C) (.type "ValueError") = some true
  mr : PySem.W.mroIn K C (.ref C) = some true
  bd : ∀ (us : List Value), us.length = ps.length → bindArgs fd ⟨us, []⟩ = pure (ps.zip us)
theorem ErrT.binds {K : PySem.W.Frag} {C : Addr} {qual : Str} {st : Stmt} {f : Addr} {fd : FuncData} {file : Str} {ps names : List Str} (T : ErrT K C qual st f fd file ps names) : Binds K fd ps [] := Binds.all T.bd
end AE

set_option Elab.async false
set_option linter.all false
set_option maxRecDepth 100000
set_option maxHeartbeats 4000000
/-! such an error, its context None: for suites that call -/
namespace AE
open PySem PySem.Spec PyProof.Rows L2 Evl
section
variable {X : Cx} {e : Expr} {es : List Expr} {ta : TA} {p pos : Pos}
theorem mk_endN {pins : List (Addr × Obj)} {σ : L2.St} {H1 H2 : Hp} {Q : XK} {hp hp2 h2 : Heap} {g1 g2 : Array GenState} {d1 d2 : Drawn} {t1 t2 : Nat} {os1 os2 : OsState} {a C d : Addr} {fs : List (Str × V)} (T : Raises X (.ref C)) (I1 : Inv X pins σ H1 ⟨hp, g1, d1, t1, os1⟩)
    (ha : hp.objs.size ≤ a) (k : ∀ b o, hp.get? b = some o → hp2.get? b = some o) (un : Un (frs X.stack) [] (upd H1 a (exo a C none)) H2 hp2 h2) (hok : HOk X.prog X.w H2 h2) (ho : os2 = os1) (hb : AllBare g2)
    (ea : H2 a = some (exo a C (some d))) (ed : H2 d = some (exd d fs)) (hd1 : H1 d = none) (q : Q (.ref C) (some d) (upd (L2.del H2 a) d (.xd fs))) : L2N.MkP X pins σ Q (.ref a) ⟨h2, g2, d2, t2, os2⟩ := by
  obtain ⟨t0, G, J, kG, ge, hoe, na⟩ := mk_end0 (d2 := d2) (t2 := t2) I1 ha k un hok ho hb ea ed hd1
  exact ⟨a, _, _, ⟨G, g2, d2, t2, os2⟩, _, .ref C, some d, rfl, J, kG, ge, hoe, ⟨rfl, rfl, fun vs e => by cases e; rfl⟩, rfl, rfl, na, rfl, hb, T, q⟩
theorem pmk_oexN {CX : CXT} {x : Str} {C fI : Addr} {k : Nat} {fd : FuncData} {ps : List Str} {sp : Sp} {ds : List Value} {dvs : List V} (T : OexC X.K C) (iC : PySem.W.findIn X.K (.ref C) "__init__" = some (some (.ref fI))) (tI : PySem.W.typeIn X.K (.ref fI) = some (.type "function"))
    (F1 : FnOk X.prog X.w X.K X.mg X.base CX k fI fd ps sp) (hr : Room (k + 1) X.A) (hb : Binds X.K fd ps ds) (hd : Vals dvs ds) (hx : Passes CX X (fun _ _ _ => False)) (hg : Gl X x) (hm : X.mg x = some (.ref C)) (ha : PA X (e :: es) ta)
    (hdb : (x == ("__debug__" : Str)) = false := by decide) (he : starEach (e :: es) X.env = (false, eval e X.env) :: starEach es X.env := by rfl) (hpl : (backTo pos (starEach es X.env)).any (·.1) = false := by rfl) :
    L2N.PMk X (.Call (.Name x p) (e :: es) [] pos) (tMkO C sp dvs ta) := by
  intro pins s σ H Q I h
  obtain ⟨nm, q, N, bs, bm, sn, sub, ab, col, dd, k0, k1, k2, k3, k5, hC, hbm⟩ := T.cls
  refine wpAny_Call_Name_kw (ld_glob I hg hm ?_ hdb)
  refine PySem.W.callWith_K (h₀ := X.base) I.ok.mod.kin T.kC (thn (ha.run pos pins s σ H _ I h) fun us s1 ⟨vs, H1, I1, r1, hz, q1⟩ => ⟨I1.kIn, ?_⟩) he hpl
  show wpAny _ _ (call (.ref C) us) _ _ _
  obtain ⟨hp, g, dr, tk, os⟩ := s1
  have hsz : hp.objs.size ≤ hp.objs.size + 1 := Nat.le_succ _
  have hn : H1 (hp.objs.size + 1) = none := I1.hok.fresh hsz
  have hq := q1 (hp.objs.size + 1) hn
  have kk : ∀ b o, hp.get? b = some o → ((hp.push (PySem.W.kdv_tup us)).push (PySem.HandSPX.excO C hp.objs.size)).get? b = some o := fun b o z => Heap.get?_push_of_some _ (Heap.get?_push_of_some _ z)
  have hget : ((hp.push (PySem.W.kdv_tup us)).push (PySem.HandSPX.excO C hp.objs.size)).get? (hp.objs.size + 1) = some (PySem.HandSPX.excO C hp.objs.size) := by heap_get
  have I2 : Inv X pins σ (upd H1 (hp.objs.size + 1) (exo (hp.objs.size + 1) C none)) ⟨(hp.push (PySem.W.kdv_tup us)).push (PySem.HandSPX.excO C hp.objs.size), g, dr, tk, os⟩ :=
    I1.laid (t' := tk) (a := hp.objs.size + 1) (o := exo (hp.objs.size + 1) C none) (h' := (hp.push (PySem.W.kdv_tup us)).push (PySem.HandSPX.excO C hp.objs.size)) kk hsz (exo_ok hget)
  have r2 : Vals (V.ref (hp.objs.size + 1) :: (vs ++ dvs)) (Value.ref (hp.objs.size + 1) :: (us ++ ds)) := .cons rfl (r1.append hd)
  have hl : (Value.ref (hp.objs.size + 1) :: us ++ ds).length = ps.length := by
    have z := r2.length
    rw [F1.len _ _ _ _ hq] at z
    exact z.symm
  have hus : us.length ≤ sizeLine := by
    rw [← Paired.length r1, sizeLine_eq]
    omega
  refine wpAny_call (PySem.HandSPX.call_own F.excBase_ValueError (fun Y => PySem.HandSPX.refsVE_contains Y bm hbm) (I1.kIn _ _ hC) (PySem.W.looks_findIn I1.kIn iC) (fun self => PySem.W.bind_fn I1.kIn self tI) hus
    (codeAny_mono (F1.run _ X.stack _ _ ⟨Value.ref (hp.objs.size + 1) :: us, []⟩ (Value.ref (hp.objs.size + 1) :: (us ++ ds)) _ _ (fun _ _ _ => False) (hr.make C us []) (I2.env0.make C us []) (hb _ (Value.ref (hp.objs.size + 1) :: us) I2.kIn hl) r2 hq) fun r s' hq' => ?_))
  cases r with
  | error er => exact hx pins σ _ _ er s' I2 hq'
  | ok fl =>
    cases fl with
    | ret u =>
      obtain ⟨v, H2, os2, bare2, un2, hok2, rv, ev, d, fs, ea, ed, hd1, q2⟩ := hq'
      subst ev
      obtain ⟨h2, g2, d2, t2, os'⟩ := s'
      exact ⟨rv, mk_endN (raises_own T.exC T.tyC) I1 hsz kk un2 hok2 os2 bare2 ea ed hd1 q2⟩
    | next => exact False.elim hq'
    | brk => exact False.elim hq'
    | cont => exact False.elim hq'
end
/-! a def that may let such errors out -/
theorem fok_N {P : Program} {w : World} {K : PySem.W.Frag} {mg : Str → Option Value} {base : Heap} {x qual : Str} {st : Stmt} {f : Addr} {fd : FuncData} {N ps : List Str} {k : Nat} {sp : Sp} (F : Fun K x qual st f fd) (S : FnScope N ps (defScope st)) (len : ∀ vs H Q E, sp vs H Q E → vs.length = ps.length)
    (hbody : ∀ (cdv : Value) (A : Around) (outer : List Env) (s : Shared) (H : Hp) (vs : List V) (Q : VK) (E : XK), Room k (A.deeper (envOfC qual (defScope st) s.heap.objs.size f cdv)) → sp vs H Q E →
      ∃ t, PSs (cxOf (L2N.CX P w) P w K mg base N qual (defScope st) f cdv A outer s H E) (defBody st) t ∧ t { nx := fun _ H' => Q .non H', rt := Q } (L2.start N vs) H) : FnOk P w K mg base (L2N.CX P w) (k + 1) f fd ps sp := by
  obtain ⟨oc, od, kV, doc, pm, an, cdv, ct, osl, rfl, lk, hcd⟩ := F.ex
  exact fn_of lk hcd S len fun A outer s H vs Q E hr hsp => hbody cdv A outer s H vs Q E hr hsp
/-! in a suite -/
theorem takesN0 {X : Cx} : L2N.Takes X (fun _ _ _ _ => False) := fun _ _ ⟨_, _, _, _, _, _, _, _, _, _, _, _, _, _, _, _, z⟩ => z.elim
theorem passH {X : Cx} (σ : L2.St) : PassesAt CX0 X σ E0 := fun _ _ _ _ _ _ z => z.elim
theorem hotc {X : Cx} {a : Addr} {oe : Obj} {cls : Value} {d : Option Addr} {pn : List (Addr × Obj)} (hz : L2N.Zn cls d oe) (hf : ∃ vs, oe.data = .fields vs) : L2H.HotC (X.suite a ((a, oe) :: pn)) := by
  obtain ⟨vs, hv⟩ := hf
  exact ⟨(a, oe), ⟨rfl, vs, hv, hz.2.2 vs hv⟩, List.mem_cons_self⟩
def rIsX (K : PySem.W.Frag) (D a : Addr) (cls : Value) (d : Option Addr) : List V → Hp → VK → Prop := fun xs H Q => cls = .ref D ∧ ∃ (dd : Addr) (c : V) (cv : Value) (b : Bool) (fs : List (Str × V)), d = some dd ∧ xs = [.ref a, c] ∧ H dd = some (.xd fs) ∧ (∀ u, RelV c u → u = cv) ∧ PySem.W.kitOne K (.ref D) cv = some b ∧ Q (.bl b) H
theorem call_isX {X : Cx} {a D : Addr} {cls : Value} {d : Option Addr} {oe : Obj} {pn : List (Addr × Obj)} (C : ExcC X.K D) (hz : Zc cls d oe) (hf : ∃ vs, oe.data = .fields vs) : CallR (X.suite a ((a, oe) :: pn)) (.builtin "isinstance") (rIsX X.K D a cls d) := by
  intro pins s σ H xs us Q I r h
  obtain ⟨rfl, dd, c, cv, b, fs, rfl, rfl, hdd, hcv, hk, q⟩ := h
  exact call_isD C hz hf pins s σ H _ us Q I r ⟨c, cv, b, fs, rfl, hdd, hcv, hk, q⟩
theorem isx_go {K : PySem.W.Frag} {D a dd : Addr} {c : V} {cv : Value} {b : Bool} {fs : List (Str × V)} {H : Hp} {Q : VK} (hdd : H dd = some (.xd fs)) (hcv : ∀ u, RelV c u → u = cv) (hk : PySem.W.kitOne K (.ref D) cv = some b) (q : Q (.bl b) H) : rIsX K D a (.ref D) (some dd) [.ref a, c] H Q :=
  ⟨rfl, dd, c, cv, b, fs, rfl, rfl, hdd, hcv, hk, q⟩
section
variable {a C dd : Addr} {f : Str} {te : TE} {σ : L2.St} {H : Hp} {Q : VK} {v : V} {fs : List (Str × V)} {i : Nat}
theorem xf_go (h : σ[i]? = some (some (.ref a))) (hd : H dd = some (.xd fs)) (l : fs.lookup f = some v) (q : Q v H) : tXf a (.ref C) (some dd) C f (tVar i) σ H Q := ⟨_, h, rfl, rfl, dd, fs, v, rfl, hd, l, q⟩
end
end AE

set_option Elab.async false
set_option linter.all false
set_option maxRecDepth 100000
/-! for i in range(a, b) -/
namespace AE
open PySem PySem.Spec PyProof.Rows L2 Evl
variable {K : PySem.W.Frag} {σ : L2.St} {H : Hp} {Q : VK} {D : Ends} {tz : TS}
def LR2 (i : Nat) (tb : TS) (D : Ends) (σ : L2.St) : List V → Hp → Prop := fun vs H1 => ∃ a b : Int, vs = [.int a, .int b] ∧ (-2 ^ 62 ≤ a ∧ a < 2 ^ 62 ∧ -2 ^ 62 ≤ b ∧ b < 2 ^ 62) ∧
  ∃ W : Nat → Nat → L2.St → Hp → Prop, (∃ m, W 0 m σ H1) ∧ ∀ i' m σ H, W i' m σ H → ((Itr a (b - a).toNat).stop i' H ∧ D.nx σ H) ∨ ((Itr a (b - a).toNat).go i' H ∧ ∃ N : L2.St → Hp → Prop, (∀ σ' H', N σ' H' → ∃ m', m' < m ∧ W (i' + 1) m' σ' H') ∧
    ∀ x H', (Itr a (b - a).toNat).yld i' H x H' → gName i x σ H' fun σ2 H2 => tb { D with nx := N, ct := N, bk := D.nx } σ2 H2)
theorem r_forR2 {ta : TA} {i : Nat} (q : ta σ H (LR2 i tz D σ)) : tFor (iRng2 ta) (gName i) tz D σ H := q
theorem lr2_go {i : Nat} {a b : Int} (Pv : Nat → L2.St → Hp → Prop) (h0 : Pv 0 σ H) (ha : 0 ≤ a ∧ a ≤ 100000000) (hb : 0 ≤ b ∧ b ≤ 100000000)
    (hs : ∀ (k : Nat) σ' H', a + (k : Int) < b → Pv k σ' H' → tz { D with nx := Pv (k + 1), ct := Pv (k + 1), bk := D.nx } (σ'.set i (some (.int (a + (k : Int))))) H')
    (hd : ∀ σ' H', Pv (b - a).toNat σ' H' → D.nx σ' H') : LR2 i tz D σ [.int a, .int b] H :=
  ⟨a, b, rfl, by omega, for_range (lo := a) (n := (b - a).toNat) Pv h0 (fun k σ' H' hk p => by
    have q := hs k σ' H' (by omega) p
    show gName i (.int (a + (k : Int))) σ' H' _
    exact q) hd⟩
theorem max2_i {i j : Int} (q : Q (.int (if j > i then j else i)) H) : rMax2 [.int i, .int j] H Q := ⟨i, j, rfl, q⟩
end AE

set_option Elab.async false
set_option linter.all false
set_option maxRecDepth 100000
set_option maxHeartbeats 1000000
/-! comprehensions whose items are made, over a tuple, a list, a range, two tuples in step -/
namespace AE
open PySem PySem.Spec PyProof.Rows L2 Evl
section
variable {K : PySem.W.Frag} {σ : L2.St} {H : Hp} {Q : VK} {ta tb te tl : TE} {tt : TT} {g : TG} {i j : Nat} {a b : Addr} {xs ys : List V} {J : It} {n : Nat} {G : Hp → Prop} {Y : Nat → Hp → V → Hp → Prop} {vs : List Nat}
theorem ch_l {D : Addr} {l : List V} {Ha Hb : Hp} {p : Addr} {xs : List V} (hD : Ha D = some (.lst l)) (c : Ch D Ha Hb) (h : Ha p = some (.tup xs)) : Hb p = some (.tup xs) := c _ _ (fun z => by subst z; rw [hD] at h; cases h) h
/-- what is made, item by item; P must outlive new things and what is written into a list -/
theorem lco (w : Walk J n G Y) (hz : n ≤ 1000000) {D : Addr} (hD : H D = none) (hG : ∀ H', Ex H H' → G H') (P : Nat → List V → Hp → Prop)
    (pex : ∀ i acc Ha Hb, Ex Ha Hb → P i acc Ha → P i acc Hb) (pch : ∀ i acc D l Ha Hb, Ha D = some (.lst l) → Ch D Ha Hb → P i acc Ha → P i acc Hb) (h0 : P 0 [] H)
    (step : ∀ i x acc Ha Hb, i < n → acc.length = i → Ex H Ha → P i acc Ha → Y i Ha x Hb → ∀ (R : VK) (R2 : Hp → Prop), (∀ y He, Ex Ha He → P (i + 1) (acc ++ [y]) He → R y He) →
      g x (wipe σ vs) Hb fun σ2 Hc => wipe σ2 vs = wipe σ vs ∧ tt σ2 Hc fun b Hd => if b = true then te σ2 Hd R else R2 Hd)
    {Qd : Hp → Prop} (k : ∀ acc H1, acc.length = n → Ex H H1 → H1 D = some (.lst acc) → P n acc H1 → Qd H1) :
    ∃ W : Nat → Nat → Hp → Prop, (∃ m, W 0 m (upd H D (.lst []))) ∧ ∀ i m Ha, W i m Ha →
      (J.stop i Ha ∧ Qd Ha) ∨ (J.go i Ha ∧ ∃ Nx : Hp → Prop, (∀ Hb, Nx Hb → ∃ m', m' < m ∧ W (i + 1) m' Hb) ∧ ∀ x Hb, J.yld i Ha x Hb → g x (wipe σ vs) Hb fun σ2 Hc => wipe σ2 vs = wipe σ vs ∧ tt σ2 Hc fun b Hd =>
        if b = true then te σ2 Hd fun y He => ∃ acc, He D = some (.lst acc) ∧ acc.length < sizeLine ∧ Nx (upd He D (.lst (acc ++ [y]))) else Nx Hd) := by
  refine lc_it w (fun m Ha => ∃ acc, acc.length = m ∧ Ex H Ha ∧ Ha D = some (.lst acc) ∧ P m acc Ha) ⟨[], rfl, Ex.new hD, upd_same, pex _ _ _ _ (Ex.new hD) h0⟩ (fun m Ha _ ⟨_, _, e, _⟩ => hG Ha e) ?_ fun Ha ⟨acc, ha, e, hd, hp⟩ => k acc Ha ha e hd hp
  rintro m x Ha Hb hm ⟨acc, ha, e1, hd, hp⟩ hy
  refine step m x acc Ha Hb hm ha e1 hp hy _ _ fun y He e2 p2 => ?_
  have hd2 := e2 _ _ hd
  exact ⟨acc, hd2, Nat.lt_of_le_of_lt (show acc.length ≤ 1000000 by omega) (by decide), acc ++ [y], by rw [List.length_append, ha]; rfl, ex_upd (e1.trans e2) hD, upd_same, pch _ _ _ _ _ _ hd2 ch_upd p2⟩
/-- P outlives -/
structure Stays (P : Nat → List V → Hp → Prop) : Prop where
  pex : ∀ i acc Ha Hb, Ex Ha Hb → P i acc Ha → P i acc Hb
  pch : ∀ i acc D l Ha Hb, Ha D = some (.lst l) → Ch D Ha Hb → P i acc Ha → P i acc Hb
/-- over a tuple -/
theorem lco_t (P : Nat → List V → Hp → Prop) (S : Stays P) (hv : ∀ R : VK, R (.ref a) H → tl σ H R) (hx : SqT K H a xs) (hz : xs.length ≤ 1000000) (h0 : P 0 [] H)
    (step : ∀ i x acc Ha, xs[i]? = some x → acc.length = i → Ex H Ha → P i acc Ha → ∀ (R : VK) (R2 : Hp → Prop), (∀ y He, Ex Ha He → P (i + 1) (acc ++ [y]) He → R y He) →
      g x (wipe σ vs) Ha fun σ2 Hc => wipe σ2 vs = wipe σ vs ∧ tt σ2 Hc fun b Hd => if b = true then te σ2 Hd R else R2 Hd)
    (k : ∀ D acc H1, H D = none → acc.length = xs.length → Ex H H1 → H1 D = some (.lst acc) → P xs.length acc H1 → Q (.ref D) H1) : tLc (iTup K tl) g tt te vs σ H Q :=
  hv _ ⟨a, rfl, ⟨xs, hx⟩, fun D hD => lco (walk_tup (K := K) (a := a) (xs := xs)) hz hD (fun _ e => ex_t e hx) P S.pex S.pch h0 (fun i x acc Ha Hb _ ha e1 hp hy => by
    obtain ⟨rfl, hy⟩ := hy
    exact step i x acc Hb hy ha e1 hp) fun acc H1 ha e h p => k D acc H1 hD ha e h p⟩
/-- over a list -/
theorem lco_l (P : Nat → List V → Hp → Prop) (S : Stays P) (hx : SqL K H a xs) (hz : xs.length ≤ 1000000) (h0 : P 0 [] H)
    (step : ∀ i x acc Ha, xs[i]? = some x → acc.length = i → Ex H Ha → P i acc Ha → ∀ (R : VK) (R2 : Hp → Prop), (∀ y He, Ex Ha He → P (i + 1) (acc ++ [y]) He → R y He) →
      gName j x (wipe σ vs) Ha fun σ2 Hc => wipe σ2 vs = wipe σ vs ∧ tt σ2 Hc fun b Hd => if b = true then te σ2 Hd R else R2 Hd)
    (k : ∀ D acc H1, H D = none → acc.length = xs.length → Ex H H1 → H1 D = some (.lst acc) → P xs.length acc H1 → Q (.ref D) H1) : LcL K j tt te vs σ Q (.ref a) H :=
  ⟨a, rfl, ⟨xs, hx⟩, fun D hD => lco (walk_list (K := K) (a := a) (xs := xs)) hz hD (fun _ e => ex_l e hx) P S.pex S.pch h0 (fun i x acc Ha Hb _ ha e1 hp hy => by
    obtain ⟨rfl, hy⟩ := hy
    exact step i x acc Hb hy ha e1 hp) fun acc H1 ha e h p => k D acc H1 hD ha e h p⟩
/-- over range(n) -/
theorem lco_r (P : Nat → List V → Hp → Prop) (S : Stays P) {tn : TA} {m : Int} (hv : ∀ R : List V → Hp → Prop, R [.int m] H → tn σ H R) (hz : 0 ≤ m ∧ m ≤ 1000000) (h0 : P 0 [] H)
    (step : ∀ (i : Nat) acc Ha, (i : Int) < m → acc.length = i → Ex H Ha → P i acc Ha → ∀ (R : VK) (R2 : Hp → Prop), (∀ y He, Ex Ha He → P (i + 1) (acc ++ [y]) He → R y He) →
      g (.int (i : Int)) (wipe σ vs) Ha fun σ2 Hc => wipe σ2 vs = wipe σ vs ∧ tt σ2 Hc fun b Hd => if b = true then te σ2 Hd R else R2 Hd)
    (k : ∀ D acc H1, H D = none → acc.length = m.toNat → Ex H H1 → H1 D = some (.lst acc) → P m.toNat acc H1 → Q (.ref D) H1) : tLc (iRng1 tn) g tt te vs σ H Q :=
  hv _ ⟨m, rfl, by omega, by omega, fun D hD => lco (walk_range (lo := 0) (n := m.toNat)) (by omega) hD (fun _ _ => trivial) P S.pex S.pch h0 (fun i x acc Ha Hb hi ha e1 hp hy => by
    obtain ⟨rfl, rfl⟩ := hy
    have st := step i acc Hb (by omega) ha e1 hp
    show ∀ (R : VK) (R2 : Hp → Prop), (∀ y He, Ex Hb He → P (i + 1) (acc ++ [y]) He → R y He) → g (.int (0 + (i : Int))) (wipe σ vs) Hb fun σ2 Hc => wipe σ2 vs = wipe σ vs ∧ tt σ2 Hc fun b Hd => if b = true then te σ2 Hd R else R2 Hd
    rw [Int.zero_add]
    exact st) fun acc H1 ha e h p => k D acc H1 hD ha e h p⟩
/-! two tuples in step -/
theorem walk_zipT {n : Nat} (hn : n = min xs.length ys.length) : Walk (RZ.ItzT K a b) n (fun H => SqT K H a xs ∧ SqT K H b ys) (YPair (fun i => xs[i]?) (fun i => ys[i]?)) := by
  subst hn
  refine ⟨fun i _ hi q => ?_, fun _ q => ⟨xs, ys, q.1, q.2, by omega⟩, fun i H v H' _ q y => ?_⟩
  · have h1 : i < xs.length := by omega
    have h2 : i < ys.length := by omega
    exact ⟨xs, ys, xs[i], ys[i], q.1, q.2, by simp [h1], by simp [h2]⟩
  · obtain ⟨T, x, z, h1, h2, h3, h4, h5⟩ := y
    exact ⟨T, x, z, h1, h2, h3, h4 xs q.1, h5 ys q.2⟩
theorem lco_z (P : Nat → List V → Hp → Prop) (S : Stays P) {tn : TA} (hv : ∀ R : List V → Hp → Prop, R [.ref a, .ref b] H → tn σ H R) (hx : SqT K H a xs) (hy : SqT K H b ys) (hl : xs.length = ys.length) (hz : xs.length ≤ 1000000) (h0 : P 0 [] H)
    (step : ∀ i x y T acc Ha, xs[i]? = some x → ys[i]? = some y → acc.length = i → Ex H Ha → P i acc Ha → Ha T = none → ∀ (R : VK) (R2 : Hp → Prop), (∀ z He, Ex Ha He → P (i + 1) (acc ++ [z]) He → R z He) →
      g (.ref T) (wipe σ vs) (upd Ha T (.tup [x, y])) fun σ2 Hc => wipe σ2 vs = wipe σ vs ∧ tt σ2 Hc fun b Hd => if b = true then te σ2 Hd R else R2 Hd)
    (k : ∀ D acc H1, H D = none → acc.length = xs.length → Ex H H1 → H1 D = some (.lst acc) → P xs.length acc H1 → Q (.ref D) H1) : tLc (RZ.iZipA K tn) g tt te vs σ H Q :=
  hv _ ⟨a, b, xs, ys, rfl, .inr ⟨hx, hy, fun D hD => lco (n := xs.length) (walk_zipT (K := K) (a := a) (b := b) (xs := xs) (ys := ys) (by omega)) hz hD (fun _ e => ⟨ex_t e hx, ex_t e hy⟩) P S.pex S.pch h0 (fun i x acc Ha Hb hi ha e1 hp hyy => by
    obtain ⟨T, u, v, rfl, h2, rfl, h4, h5⟩ := hyy
    exact step i u v T acc Ha h4 h5 ha e1 hp h2) fun acc H1 ha e h p => k D acc H1 hD ha e h p⟩⟩
theorem gtup2 {t : TGs} {T : Addr} {x y : V} {Q : L2.St → Hp → Prop} (h : H T = some (.tup [x, y])) (q : t [x, y] σ H Q) : gTup K 2 t (.ref T) σ H Q := ⟨T, _, rfl, .inl (.inl h), rfl, q⟩
theorem gnames2 {i j : Nat} {x y : V} {Q : L2.St → Hp → Prop} (q : Q ((σ.set i (some x)).set j (some y)) H) : gCons (gName i) (gCons (gName j) gNil) [x, y] σ H Q := ⟨x, [y], rfl, y, [], rfl, rfl, q⟩
theorem r_meth {C : Addr} {m : Str} {sp : Sp} {dvs : List V} {E : XK} {t : TA} (q : ta σ H fun x H1 => ∃ a dx fs, x = .ref a ∧ H1 a = some (.ins C dx fs) ∧ fs.lookup m = none ∧ t σ H1 fun vs H2 => sp (x :: (vs ++ dvs)) H2 Q E) : tMeth C m sp dvs E ta t σ H Q := q
theorem stays_take (L : List V) : Stays fun i acc _ => acc = L.take i := ⟨fun _ _ _ _ _ h => h, fun _ _ _ _ _ _ _ _ h => h⟩
end
end AE

set_option Elab.async false
set_option linter.all false
set_option maxRecDepth 100000
/-! a + b by an own __add__ (both of one class), a += b by an own __iadd__ -/
namespace AE
open PySem PySem.Spec PyProof.Rows L2 Evl
section
variable {X : Cx} {f C : Addr} {fd : FuncData} {ps : List Str} {sp : Sp} {CX : CXT} {k : Nat} {E : XK} {op : Operator}
theorem back_of {pins : List (Addr × Obj)} {σ : L2.St} {Q : VK} {r : Value} {s : Shared} (h : EP X pins σ Q r s) : PySem.W.CmpBack (EP X pins σ Q) r s := by
  cases r with
  | notImplemented =>
    obtain ⟨v, H1, I1, rv, _⟩ := h
    cases v <;> simp [L2.RelV] at rv
  | _ => exact h
def rBinO (C : Addr) (sp : Sp) (E : XK) : R2 := fun x y H Q => ∃ (a b dx dy : Addr) (fs gs : List (Str × V)), x = .ref a ∧ y = .ref b ∧ H a = some (.ins C dx fs) ∧ H b = some (.ins C dy gs) ∧ sp [.ref a, .ref b] H Q E
theorem op_addO (hs : PySem.W.findIn X.K (.ref C) (PySem.dunder op.info.2) = some (some (.ref f))) (hf : PySem.W.isFn X.K (.ref f) = true) (hc : PySem.W.selfFirst X.K C = true) (F : FnOk X.prog X.w X.K X.mg X.base CX k f fd ps sp) (hr : Room k X.A) (hb : Binds X.K fd ps []) (hx : Passes CX X E) :
    OpR X (binaryOp op) (rBinO C sp E) := by
  rintro pins s σ H x y v u Q I rx ry ⟨a, b, dx, dy, fs, gs, rfl, rfl, ha, hbb, q⟩
  cases rx
  cases ry
  obtain ⟨od, J⟩ := inst_in I ha
  obtain ⟨od2, J2⟩ := inst_in I hbb
  obtain ⟨m, hF⟩ := I.fr
  exact PySem.W.binop_K hF I.ok.mod.kin J J2.type hc hs hf (wpAny_mono (run_deep (vs := [.ref a, .ref b]) F hr I.env0 hb hx I (.cons rfl (.cons rfl .nil)) q) (fun r s1 hr => back_of hr) fun _ _ y => y)
def rInO (C : Addr) (sp : Sp) (E : XK) : R2 := fun x y H Q => ∃ (a dx : Addr) (fs : List (Str × V)), x = .ref a ∧ H a = some (.ins C dx fs) ∧ sp [.ref a, y] H Q E
theorem op_iaddO (hs : PySem.W.findIn X.K (.ref C) (PySem.dunderI op.info.2) = some (some (.ref f))) (hf : PySem.W.isFn X.K (.ref f) = true) (hc : PySem.W.selfFirst X.K C = true) (F : FnOk X.prog X.w X.K X.mg X.base CX k f fd ps sp) (hr : Room k X.A) (hb : Binds X.K fd ps []) (hx : Passes CX X E) :
    InOp X op (rInO C sp E) := by
  rintro pins s σ H x y v u Q I rx ry ⟨a, dx, fs, rfl, ha, q⟩
  cases rx
  obtain ⟨od, J⟩ := inst_in I ha
  obtain ⟨m, hF⟩ := I.fr
  exact PySem.W.ksp_inplace hF I.ok.mod.kin J hc hs hf (wpAny_mono (run_deep (vs := [.ref a, y]) F hr I.env0 hb hx I (.cons rfl (.cons ry .nil)) q) (fun r s1 hr => back_of hr) fun _ _ y => y)
end
section
open PySem.W
theorem fills_none {M : Model} {K : Frag} {D B : Addr} {h : Heap} {nm : String} {cd : ClassData} (X : K.In h) (hc : clsIn K D = some cd) (hm : cd.mro = [.ref D, .ref B, .type "object"]) (a1 : findIn K (.ref D) (PySem.dunder nm) = some none) (a2 : findIn K (.ref D) (dunderR nm) = some none)
    (b1 : findIn K (.ref B) (PySem.dunder nm) = some none) (b2 : findIn K (.ref B) (dunderR nm) = some none) (c1 : findIn K (.type "object") (PySem.dunder nm) = some none) (c2 : findIn K (.type "object") (dunderR nm) = some none) : Looks M h (fillsNumberSlot (.ref D) nm) false := by
  intro A Q E s k q
  have Lm : Looks M h (mroOf (.ref D)) cd.mro := (looks_clsIn X hc).andThen (f := fun cd => pure cd.mro) .now
  have Lm' := Lm.keeps k
  obtain ⟨hh, g, d, tt, os⟩ := s
  have X' : K.In hh := X.keeps k
  have L1 : Looks M hh (typeLookup (.ref D) (PySem.dunder nm)) none := looks_findIn X' a1
  have L2 : Looks M hh (typeLookup (.ref D) (dunderR nm)) none := looks_findIn X' a2
  have L3 : Looks M hh (typeLookup (.ref B) (PySem.dunder nm)) none := looks_findIn X' b1
  have L4 : Looks M hh (typeLookup (.ref B) (dunderR nm)) none := looks_findIn X' b2
  have L5 : Looks M hh (typeLookup (.type "object") (PySem.dunder nm)) none := looks_findIn X' c1
  have L6 : Looks M hh (typeLookup (.type "object") (dunderR nm)) none := looks_findIn X' c2
  unfold fillsNumberSlot
  refine wpAny_bind (Lm'.at ?_)
  rw [hm, List.anyM_cons]
  refine wpAny_bind ?_
  repeat lk
  exact q
/-- x + b by x's own method, where b's own class has neither the operator nor its reflection -/
theorem bin_D {prog : Program} {w : World} {A : Around} {E : Value → Shared → Prop} {s : Shared} {K : Frag} {x b C D B L f : Addr} {h₀ : Heap} {m : Str → Option Value} {ox ob : Obj} {od od2 : Option Obj} {op : Operator} {cd2 : ClassData} {Q : Value → Shared → Prop}
    (F : Fr h₀ L s.heap m) (X₀ : K.In h₀) (I : InstAt s.heap x ox C od) (J : InstAt s.heap b ob D od2) (hCD : C ≠ D) (hc : selfFirst K C = true) (hs : findIn K (.ref C) (PySem.dunder op.info.2) = some (some (.ref f))) (hf : isFn K (.ref f) = true)
    (hc2 : clsIn K D = some cd2) (hm2 : cd2.mro = [.ref D, .ref B, .type "object"]) (a1 : findIn K (.ref D) (PySem.dunder op.info.2) = some none) (a2 : findIn K (.ref D) (dunderR op.info.2) = some none)
    (b1 : findIn K (.ref B) (PySem.dunder op.info.2) = some none) (b2 : findIn K (.ref B) (dunderR op.info.2) = some none) (c1 : findIn K (.type "object") (PySem.dunder op.info.2) = some none) (c2 : findIn K (.type "object") (dunderR op.info.2) = some none)
    (h : wpAny (model prog w) A (call (.ref f) [.ref x, .ref b]) (PySem.W.CmpBack Q) E s) : wpAny (model prog w) A (binaryOp op (.ref x) (.ref b)) Q E s := by
  have X := X₀.keeps F.keep
  obtain ⟨cd, rest, hcd, hm⟩ := ksp_first hc
  rcases hi : op.info with ⟨sym, nm'⟩
  rw [hi] at hs a1 a2 b1 b2 c1 c2
  dsimp only at hs a1 a2 b1 b2 c1 c2
  have one := ksp_try X I hs hf h
  obtain ⟨hh, g, d, tt, os⟩ := s
  have L1 : Looks (model prog w) hh (typeOf (.ref x)) (.ref C) := I.type
  have L2 : Looks (model prog w) hh (typeOf (.ref b)) (.ref D) := J.type
  have L3 : Looks (model prog w) hh (fillsNumberSlot (.ref C) nm') true := fills_K X hcd hm hs
  have L4 : Looks (model prog w) hh (fillsNumberSlot (.ref D) nm') false := fills_none X hc2 hm2 a1 a2 b1 b2 c1 c2
  have hne : (Value.ref C == Value.ref D) = false := Bool.eq_false_iff.mpr fun q => by
    have := beq_iff_eq.mp q
    cases this
    exact hCD rfl
  simp only [binaryOp, hi]
  refine wpAny_holding (wpAny_bind ?_)
  unfold binaryOp1
  refine wpAny_bind (L1.at (wpAny_bind (L2.at (wpAny_bind (L3.at ?_)))))
  simp only [hne, Bool.false_eq_true, if_false]
  ksp_lk
  refine wpAny_mono one (fun r s' hr' => ?_) fun _ _ e => e
  obtain ⟨v, rfl, hq⟩ := hr'
  ksp_lk
  exact hq
end
section
variable {X : Cx} {f C D B : Addr} {fd : FuncData} {ps : List Str} {sp : Sp} {CX : CXT} {k : Nat} {E : XK} {op : Operator}
/-- the classes' facts of such an operator -/
structure BinD (K : PySem.W.Frag) (C D B : Addr) (nm : String) (f : Addr) : Prop where
  ne : C ≠ D
  sf : PySem.W.selfFirst K C = true
  at_ : PySem.W.findIn K (.ref C) (PySem.dunder nm) = some (some (.ref f))
  fn : PySem.W.isFn K (.ref f) = true
  cl : ∃ cd, PySem.W.clsIn K D = some cd ∧ cd.mro = [.ref D, .ref B, .type "object"]
  a1 : PySem.W.findIn K (.ref D) (PySem.dunder nm) = some none
  a2 : PySem.W.findIn K (.ref D) (dunderR nm) = some none
  b1 : PySem.W.findIn K (.ref B) (PySem.dunder nm) = some none
  b2 : PySem.W.findIn K (.ref B) (dunderR nm) = some none
  c1 : PySem.W.findIn K (.type "object") (PySem.dunder nm) = some none
  c2 : PySem.W.findIn K (.type "object") (dunderR nm) = some none
def rBinD (C D : Addr) (sp : Sp) (E : XK) : R2 := fun x y H Q => ∃ (a b dx dy : Addr) (fs gs : List (Str × V)), x = .ref a ∧ y = .ref b ∧ H a = some (.ins C dx fs) ∧ H b = some (.ins D dy gs) ∧ sp [.ref a, .ref b] H Q E
theorem op_addD (hd : BinD X.K C D B op.info.2 f) (F : FnOk X.prog X.w X.K X.mg X.base CX k f fd ps sp) (hr : Room k X.A) (hb : Binds X.K fd ps []) (hx : Passes CX X E) : OpR X (binaryOp op) (rBinD C D sp E) := by
  rintro pins s σ H x y v u Q I rx ry ⟨a, b, dx, dy, fs, gs, rfl, rfl, ha, hbb, q⟩
  cases rx
  cases ry
  obtain ⟨od, J⟩ := inst_in I ha
  obtain ⟨od2, J2⟩ := inst_in I hbb
  obtain ⟨m, hF⟩ := I.fr
  obtain ⟨cd, hc2, hm2⟩ := hd.cl
  exact bin_D hF I.ok.mod.kin J J2 hd.ne hd.sf hd.at_ hd.fn hc2 hm2 hd.a1 hd.a2 hd.b1 hd.b2 hd.c1 hd.c2 (wpAny_mono (run_deep (vs := [.ref a, .ref b]) F hr I.env0 hb hx I (.cons rfl (.cons rfl .nil)) q) (fun r s1 hr => back_of hr) fun _ _ y => y)
end
/-! C(*y) -/
def tMakeS (K : PySem.W.Frag) (C : Addr) (sp : Sp) (E : XK) (te : TE) : TE := fun σ H Q => te σ H fun y H1 => ∃ (a : Addr) (xs : List V), y = .ref a ∧ (SqT K H1 a xs ∨ SqL K H1 a xs) ∧ ∀ x dx : Addr, H1 x = none → H1 dx = none → dx ≠ x →
  sp (V.ref x :: xs) (upd (upd H1 dx (.own x)) x (.ins C dx [])) (fun v H2 => v = .non ∧ Q (.ref x) H2) E
section
variable {X : Cx} {f C : Addr} {sp : Sp} {CX : CXT} {k : Nat} {E : XK} {x : Str} {e : Expr} {te : TE} {p sp_ pos : Pos}
theorem r_makeS {K : PySem.W.Frag} {σ : L2.St} {H : Hp} {Q : VK} (q : te σ H fun y H1 => ∃ (a : Addr) (xs : List V), y = .ref a ∧ (SqT K H1 a xs ∨ SqL K H1 a xs) ∧ ∀ x dx : Addr, H1 x = none → H1 dx = none → dx ≠ x →
  sp (V.ref x :: xs) (upd (upd H1 dx (.own x)) x (.ins C dx [])) (fun v H2 => v = .non ∧ Q (.ref x) H2) E) : tMakeS K C sp E te σ H Q := q
theorem pe_makeS1 (M : Mk X.K C f) (F : FnR X.prog X.w X.K X.mg X.base CX k f sp) (hr : Room (k + 1) X.A) (hg : Gl X x) (hm : X.mg x = some (.ref C)) (hx : Passes CX X E) (he : PE X e te) (hd : (x == ("__debug__" : Str)) = false := by decide)
    (hst : starEach [.Starred e sp_] X.env = [(true, eval e X.env)] := by rfl) : PE X (.Call (.Name x p) [.Starred e sp_] [] pos) (tMakeS X.K C sp E te) := by
  refine ⟨fun pins s σ H Q I h => ?_⟩
  refine wpAny_Call_Name_kw (ld_glob I hg hm ?_ hd)
  refine PySem.W.callWith_S (h₀ := X.base) I.ok.mod.kin M.kp (thn (he.run pins s σ H _ I h) fun v s1 ⟨y, H1, I1, ry, a, xs, ey, hxs, q⟩ => ?_) hst
  subst ey
  obtain rfl : v = Value.ref a := ry
  exact StX.star_any I1 hxs fun us s2 I2 rv => ⟨I2.kIn, StX.run_makeR M F hr hx I2 rv q⟩
end
end AE

set_option Elab.async false
set_option linter.all false
set_option maxRecDepth 100000
set_option maxHeartbeats 2000000
/-! a def that is handed the exception which a suite handles -/
namespace AE
open PySem PySem.Spec PyProof.Rows L2 Evl
/-- its promise knows the exception's address, its class and its dict -/
structure FnP (P : Program) (w : World) (K : PySem.W.Frag) (mg : Str → Option Value) (base : Heap) (CX : CXT) (k : Nat) (f : Addr) (fd : FuncData) (ps : List Str) (sp : Addr → Value → Option Addr → Sp) : Prop where
  wid : ∀ a cls d vs H Q E, sp a cls d vs H Q E → vs.length = ps.length
  go : ∀ (A : Around) (fr : List Env) (s : Shared) (H : Hp) (us : List Value) (vs : List V) (Q : VK) (E : XK) (p : Addr × Obj) (cls : Value) (d : Option Addr), L2H.RoomH k A → L2H.Hot1 A p → L2H.PinOk fr H s p → Zc cls d p.2 → Env0 P w K mg base A fr s H →
    BindsTo s fd ⟨us, []⟩ (ps.zip us) → Vals vs us → sp p.1 cls d vs H Q E → codeAny (model P w) A (.call (.ref f) ⟨us, []⟩) (CR CX fr P w H s Q E) s
theorem fn_ofP {CX : CXT} {P : Program} {w : World} {K : PySem.W.Frag} {mg : Str → Option Value} {base : Heap} {k : Nat} {f : Addr} {fd : FuncData} {x qual : Str} {st : Stmt} {N ps : List Str} {sp : Addr → Value → Option Addr → Sp} (F : Fun K x qual st f fd) (S : FnScope N ps (defScope st))
    (wid : ∀ a cls d vs H Q E, sp a cls d vs H Q E → vs.length = ps.length)
    (body : ∀ (cdv : Value) (A : Around) (fr : List Env) (s : Shared) (H : Hp) (vs : List V) (Q : VK) (E : XK) (p : Addr × Obj) (cls : Value) (d : Option Addr), L2H.Hot1 A p → Zc cls d p.2 → L2H.RoomH k (A.deeper (envOfC qual (defScope st) s.heap.objs.size f cdv)) → sp p.1 cls d vs H Q E →
      ∃ t, PSs (L2H.cxH CX P w K mg base N qual (defScope st) f cdv A fr s H E p) (defBody st) t ∧ t { nx := fun _ H' => Q .non H', rt := Q } (L2.start N vs) H) : FnP P w K mg base CX (k + 1) f fd ps sp := by
  obtain ⟨oc, od, kV, doc, pm, an, cdv, ct, osl, efd, lk, hcd⟩ := F.ex
  subst efd
  refine ⟨wid, fun A fr s H us vs Q E p cls d room hot pin zc e0 bd rl want => ?_⟩
  have lvs := wid _ _ _ _ _ _ _ want
  have inK : K.In s.heap := e0.mod.kin.keeps fun b o e => (e0.bs b o e).1
  have noLim : s.heap.NoLimit := e0.mod.nolimit.keeps fun b o e => (e0.bs b o e).1
  have kinds : ∀ y ∈ ps.zip us, (defScope st).names.lookup y.1 = some .local ∨ ((defScope st).names.lookup y.1 = some .cell ∧ ((cellsFrom (s.heap.objs.size + 1) (defScope st).names []).lookup y.1).isSome = true) := fun ⟨n, v⟩ hy => (S.par n (List.of_mem_zip hy).1).imp id fun q => ⟨q, PySem.W.cellsFrom_some _ _ _ (.inl q)⟩
  refine codeAny_call_function room.depth (inK _ _ lk) rfl S.co S.gen rfl (PySem.W.codeRec_of inK hcd) (bd _ _ _ _ (wpAny_newFunctionEnv_cells S.kind kinds fun env he s1 x => ?_))
  subst he
  refine ⟨noLim.keeps x.toInCall.keep, codeAny_func ?_⟩
  obtain ⟨t, ht, hq⟩ := body cdv A fr s H vs Q E p cls d hot zc (room.deeper _) want
  refine wpAny_mono (ht.run [] s1 (L2.start N vs) H _ (L2H.inv_startH S pin e0 lvs rl x) hq) (fun fl s' hs => ?_) fun e s' hs => hs
  cases fl with
  | ret u =>
    obtain ⟨v, σ', H', J, rv, q⟩ := hs
    exact ⟨v, H', J.os, J.bare, J.base, J.hok, rv, q⟩
  | next =>
    obtain ⟨σ', H', J, q⟩ := hs
    exact ⟨V.non, H', J.os, J.bare, J.base, J.hok, rfl, q⟩
  | brk => exact hs.elim fun _ z => z.elim fun _ z => z.2.elim
  | cont => exact hs.elim fun _ z => z.elim fun _ z => z.2.elim
section
variable {X : Cx} {CX : CXT} {k : Nat} {f C a : Addr} {fd : FuncData} {ps : List Str} {sp : Addr → Value → Option Addr → Sp} {E : L2.St → XK} {x m : Str} {q pos apos : Pos} {e o : Expr} {es : List Expr} {ta : TE} {t : TA} {cls : Value} {d : Option Addr} {oe : Obj} {pn : List (Addr × Obj)}
theorem run_fnP {pins : List (Addr × Obj)} {σ : L2.St} {H : Hp} {s : Shared} {Q : VK} {us : List Value} {vs : List V} (F : FnP X.prog X.w X.K X.mg X.base CX k f fd ps sp) (room : L2H.RoomH k X.A) (hot : L2H.Hot1 X.A (a, oe)) (mem : (a, oe) ∈ X.pn) (zc : Zc cls d oe) (hb : Binds X.K fd ps []) (hx : PassesAt CX X σ (E σ))
    (I : Inv X pins σ H s) (rl : Vals vs us) (want : sp a cls d vs H Q (E σ)) : wpAny (model X.prog X.w) X.A (call (.ref f) us) (EP X pins σ Q) X.xe s := by
  have bb := hb s us I.kIn (by rw [List.append_nil, ← rl.length]; exact F.wid _ _ _ _ _ _ _ want)
  rw [List.append_nil] at bb
  have P1 := I.pin (a, oe) (List.mem_append_left _ mem)
  have pin : L2H.PinOk X.stack H s (a, oe) := ⟨P1.1, P1.2.1, fun hm => (List.mem_cons.mp (I.stkSub a hm)).elim P1.2.2.1 P1.2.2.2.1, P1.2.2.2.2⟩
  refine wpAny_call (codeAny_mono (F.go X.A X.stack s H us vs Q (E σ) (a, oe) cls d room hot pin zc I.env0 bb rl want) fun r s' hq => ?_)
  rcases r with er | fl
  · exact hx pins H s er s' I hq
  · cases fl with
    | ret u => exact I.after hq
    | next => exact hq.elim
    | brk => exact hq.elim
    | cont => exact hq.elim
theorem pe_callP (F : FnP X.prog X.w X.K X.mg X.base CX k f fd ps sp) (room : L2H.RoomH k (X.suite a ((a, oe) :: pn)).A) (hz : L2N.Zn cls d oe) (hf : ∃ vs, oe.data = .fields vs) (hg : Gl (X.suite a ((a, oe) :: pn)) x) (hm : X.mg x = some (.ref f)) (hk : PySem.W.keepIn X.K (.ref f) = true) (hb : Binds X.K fd ps []) (hx : ∀ σ, PassesAt CX (X.suite a ((a, oe) :: pn)) σ (E σ))
    (ha : PA (X.suite a ((a, oe) :: pn)) (e :: es) t) (hdb : (x == ("__debug__" : Str)) = false := by decide) (he : starEach (e :: es) X.env = (false, eval e X.env) :: starEach es X.env := by rfl) (hpl : (backTo pos (starEach es X.env)).any (·.1) = false := by rfl) :
    PE (X.suite a ((a, oe) :: pn)) (.Call (.Name x q) (e :: es) [] pos) (tCallS (sp a cls d) E t) := by
  refine ⟨fun pins s σ H Q I h => wpAny_Call_Name_kw (ld_glob (X := X.suite a ((a, oe) :: pn)) I hg hm ?_ hdb)⟩
  refine PySem.W.callWith_K (h₀ := X.base) I.ok.mod.kin hk (thn (ha.run pos pins s σ H _ I h) fun us s1 ⟨vs, H1, I1, r, q⟩ => ⟨I1.kIn, ?_⟩) he hpl
  obtain ⟨fv, hv⟩ := hf
  exact run_fnP (X := X.suite a ((a, oe) :: pn)) (oe := oe) F room ⟨rfl, fv, hv, hz.2.2 fv hv⟩ List.mem_cons_self hz.zc hb (hx σ) I1 r q
/-- isinstance(e, c) where e is held -/
theorem call_isP {D : Addr} (mem : (a, oe) ∈ X.pn) (C : ExcC X.K D) (hz : Zc cls d oe) (hf : ∃ vs, oe.data = .fields vs) : CallR X (.builtin "isinstance") (rIsX X.K D a cls d) := by
  rintro pins s σ H xs us Q I r ⟨rfl, dd, c, cv, b, fs, rfl, rfl, hdd, hcv, hk, q⟩
  match us, r with
  | [_, _], .cons rx (.cons rt .nil) =>
    cases rx
    cases hcv _ rt
    obtain ⟨there, _⟩ := I.pin (a, oe) (List.mem_append_left _ mem)
    obtain ⟨mA, hns, _⟩ := (show ObjOk X.prog X.w H s.heap dd (.xd fs) from I.hok dd _ hdd)
    obtain ⟨od, ho, _⟩ := lookIn_ns hns
    have J : PySem.W.InstAt s.heap a oe D (some od) := ⟨there, hz.1, hf.elim fun vs hv => by unfold PySem.W.notCls; rw [hv] <;> rfl, by rw [hz.2]; exact ho⟩
    have known : (PySem.W.clsIn X.K D).isSome = true := by
      have q := C.hd
      unfold PySem.W.hasDictIn at q
      cases z : PySem.W.clsIn X.K D with
      | some _ => rfl
      | none => rw [z] at q; cases q
    exact PySem.W.kia_one (PySem.W.kitx_exc known C.hg C.hk C.hs C.ha C.hn C.ht C.hm) I.kIn J hk (fun z => nomatch z) fun tk => ⟨.bl b, H, I.kept (t' := tk) fun _ _ z => z, rfl, q⟩
/-- e.f where e is held -/
theorem pe_xfP {n : Str} (mem : (a, oe) ∈ X.pn) (T : XfC X.K C) (own : PySem.W.findIn X.K (.ref C) n = some none) (hz : Zc cls d oe) (hf : ∃ vs, oe.data = .fields vs) (he : PE X e ta) (hb : attributeBase e n X.env (eval e X.env) = eval e X.env := by rfl) :
    PE X (.Attribute e n pos) (tXf a cls d C n ta) := by
  refine ⟨fun pins s σ H Q I h => attr_of hb (thn (he.run pins s σ H _ I h) fun u s1 hh => ?_)⟩
  obtain ⟨x, H1, I1, rx, rfl, rfl, dd, fs, v, rfl, ea, l, q⟩ := hh
  cases rx
  obtain ⟨there, _⟩ := I1.pin (a, oe) (List.mem_append_left _ mem)
  obtain ⟨mA, hns, hr⟩ := (show ObjOk X.prog X.w H1 s1.heap dd (.xd fs) from I1.hok dd _ ea)
  obtain ⟨od, ho, hl⟩ := lookIn_ns hns
  obtain ⟨u, hu, ru⟩ := RelO.some_of (v := v) (o := mA n) (by rw [← l]; exact hr n)
  have J : PySem.W.InstAt s1.heap a oe C (some od) := ⟨there, hz.1, hf.elim fun vs hv => by unfold PySem.W.notCls; rw [hv] <;> rfl, by rw [hz.2]; exact ho⟩
  exact HandSPX.exc_get I1.kIn J T.ga T.gg T.exC (PySem.W.findObj_own T.hdC own rfl (by rw [hl, hu])) (handed_of ru) ⟨v, H1, I1.tok _, ru, q⟩
end
/-- a def that may let such errors out, called where it lets none out -/
theorem passN0 {X : Cx} : Passes (L2N.CX X.prog X.w) X E0 := fun _ _ _ _ _ _ _ ⟨_, _, _, _, _, _, _, _, _, _, _, _, z⟩ => z.elim
/-- .. called where they go on outwards -/
theorem passN {X : Cx} {E : XK} (tk : L2N.Takes X (fun cls d _ H => E cls d H)) : Passes (L2N.CX X.prog X.w) X E := L2N.passes_call tk fun _ _ _ _ h => h
end AE
namespace AE
open PySem PySem.Spec PyProof.Rows L2 Evl
/-- a def with *args may let such errors out, too -/
theorem cxUpN {P : Program} {w : World} : StX.CXUp (L2N.CX P w) := fun outer s H s2 H2 E e s' un kp ho z => by
  obtain ⟨a, B, H', cls, d, ea, fly, hok, ub, na, os, ag, wish⟩ := z
  have laid : ∀ b o, s.heap.get? b = some o → H b = none → H2 b = none := fun b o q n => un.free b o q n (by simp)
  refine ⟨a, B, H', cls, d, ea, fly, hok, ?_, na, os.trans ho, ag, wish⟩
  exact { keep := fun b o q n hb => ub.keep b o (kp b o q) (laid b o q n) hb
          slot := fun b o q hb => ub.slot b o (kp b o q) hb
          free := fun b o q n => ub.free b o (kp b o q) (laid b o q n)
          there := fun b o q hb => ub.there b o (kp b o q) hb
          tups := fun b xs q => ub.tups b xs (un.tups b xs q)
          frzs := fun b o xs q => ub.frzs b o xs (un.frzs b o xs q)
          tbls := fun b ps q => (un.tbls b ps q).elim fun m1 e1 => (ub.tbls b _ e1).elim fun m2 e2 => ⟨m1 ++ m2, by rw [e2, Array.append_assoc]⟩ }
end AE
namespace AE
open PySem PySem.Spec PyProof.Rows L2 Evl
theorem passAtN0 {X : Cx} {σ : L2.St} : PassesAt (L2N.CX X.prog X.w) X σ E0 := fun _ _ _ _ _ _ ⟨_, _, _, _, _, _, _, _, _, _, _, _, z⟩ => z.elim
end AE

set_option Elab.async false
set_option linter.all false
set_option maxRecDepth 100000
set_option maxHeartbeats 2000000
/-! operators, items, methods and makings whose errors are told of the slots at hand -/
namespace AE
open PySem PySem.Spec PyProof.Rows L2 Evl
abbrev R2S := L2.St → R2
/-- an operator, told of slots -/
def OpS (X : Cx) (f : Value → Value → Sem Value) (r : R2S) : Prop :=
  ∀ (pins : List (Addr × Obj)) (s : Shared) (σ : L2.St) (H : Hp) (x y : V) (v u : Value) (Q : VK), Inv X pins σ H s → RelV x v → RelV y u → r σ x y H Q → wpAny (model X.prog X.w) X.A (f v u) (EP X pins σ Q) X.xe s
section
variable {X : Cx} {f C D B : Addr} {fd : FuncData} {ps : List Str} {sp : Sp} {CX : CXT} {k : Nat} {E : L2.St → XK} {op : Operator}
theorem op_addOS (hs : PySem.W.findIn X.K (.ref C) (PySem.dunder op.info.2) = some (some (.ref f))) (hf : PySem.W.isFn X.K (.ref f) = true) (hc : PySem.W.selfFirst X.K C = true) (F : FnOk X.prog X.w X.K X.mg X.base CX k f fd ps sp) (hr : Room k X.A) (hb : Binds X.K fd ps []) (hx : ∀ σ, PassesAt CX X σ (E σ)) :
    OpS X (binaryOp op) (fun σ => rBinO C sp (E σ)) := by
  rintro pins s σ H x y v u Q I rx ry ⟨a, b, dx, dy, fs, gs, rfl, rfl, ha, hbb, q⟩
  cases rx
  cases ry
  obtain ⟨od, J⟩ := inst_in I ha
  obtain ⟨od2, J2⟩ := inst_in I hbb
  obtain ⟨m, hF⟩ := I.fr
  exact PySem.W.binop_K hF I.ok.mod.kin J J2.type hc hs hf (wpAny_mono (run_deepS (vs := [.ref a, .ref b]) F hr I.env0 hb (hx σ) I (.cons rfl (.cons rfl .nil)) q) (fun r s1 hr => back_of hr) fun _ _ y => y)
theorem op_iaddOS (hs : PySem.W.findIn X.K (.ref C) (PySem.dunderI op.info.2) = some (some (.ref f))) (hf : PySem.W.isFn X.K (.ref f) = true) (hc : PySem.W.selfFirst X.K C = true) (F : FnOk X.prog X.w X.K X.mg X.base CX k f fd ps sp) (hr : Room k X.A) (hb : Binds X.K fd ps []) (hx : ∀ σ, PassesAt CX X σ (E σ)) :
    OpS X (inplaceOp op) (fun σ => rInO C sp (E σ)) := by
  rintro pins s σ H x y v u Q I rx ry ⟨a, dx, fs, rfl, ha, q⟩
  cases rx
  obtain ⟨od, J⟩ := inst_in I ha
  obtain ⟨m, hF⟩ := I.fr
  exact PySem.W.ksp_inplace hF I.ok.mod.kin J hc hs hf (wpAny_mono (run_deepS (vs := [.ref a, y]) F hr I.env0 hb (hx σ) I (.cons rfl (.cons ry .nil)) q) (fun r s1 hr => back_of hr) fun _ _ y => y)
theorem op_addDS (hd : BinD X.K C D B op.info.2 f) (F : FnOk X.prog X.w X.K X.mg X.base CX k f fd ps sp) (hr : Room k X.A) (hb : Binds X.K fd ps []) (hx : ∀ σ, PassesAt CX X σ (E σ)) : OpS X (binaryOp op) (fun σ => rBinD C D sp (E σ)) := by
  rintro pins s σ H x y v u Q I rx ry ⟨a, b, dx, dy, fs, gs, rfl, rfl, ha, hbb, q⟩
  cases rx
  cases ry
  obtain ⟨od, J⟩ := inst_in I ha
  obtain ⟨od2, J2⟩ := inst_in I hbb
  obtain ⟨m, hF⟩ := I.fr
  obtain ⟨cd, hc2, hm2⟩ := hd.cl
  exact bin_D hF I.ok.mod.kin J J2 hd.ne hd.sf hd.at_ hd.fn hc2 hm2 hd.a1 hd.a2 hd.b1 hd.b2 hd.c1 hd.c2 (wpAny_mono (run_deepS (vs := [.ref a, .ref b]) F hr I.env0 hb (hx σ) I (.cons rfl (.cons rfl .nil)) q) (fun r s1 hr => back_of hr) fun _ _ y => y)
end
section
variable {X : Cx} {a b : Expr} {ta tb te : TE} {op : Operator} {r : R2S} {pos pos' : Pos} {i : Nat} {x : Str} {e : Expr}
def tOpS (r : R2S) (ta tb : TE) : TE := fun σ H Q => ta σ H fun x H1 => tb σ H1 fun y H2 => r σ x y H2 Q
theorem r_opS {σ : L2.St} {H : Hp} {Q : VK} (q : ta σ H fun x H1 => tb σ H1 fun y H2 => r σ x y H2 Q) : tOpS r ta tb σ H Q := q
theorem pe_opS (ho : OpS X (binaryOp op) r) (ha : PE X a ta) (hb : PE X b tb) : PE X (.BinOp a op b pos) (tOpS r ta tb) :=
  ⟨fun pins s σ H Q I h => wpAny_BinOp (binT ha hb I h fun v u s2 x y H2 I2 rx ry q => ho pins s2 σ H2 x y v u Q I2 rx ry q)⟩
/-- name op= e, told of slots -/
def tAugO (i : Nat) (te : TE) (r : R2S) : TS := fun D σ H => ∃ x, σ[i]? = some (some x) ∧ te σ H fun y H1 => r σ x y H1 fun z H2 => D.nx (σ.set i (some z)) H2
theorem ps_augO (hN : X.N.Nodup) (hi : X.N[i]? = some x) (hx : Loc X.env.scope x) (he : PE X e te) (ho : OpS X (inplaceOp op) r) (hf : X.fn x = true ∨ X.env.scope.names.lookup x = some .local := by first | exact .inl rfl | exact .inr rfl | assumption) :
    PS X (.AugAssign (.Name x pos') op e pos) (tAugO i te r) := by
  refine ⟨fun pins s σ H D I ⟨v, e1, want⟩ => wpAny_AugAssign_Name ?_⟩
  obtain ⟨m, hn, hl⟩ := I.loc
  obtain ⟨u, ru, there⟩ := hl i x v hi e1 (hx.elim .inl fun k => .inr (.inl k))
  have run : wpAny (model X.prog X.w) X.A (eval e X.env) (fun w s₂ => wpAny (model X.prog X.w) X.A (inplaceOp op u w) (fun r s₃ => wpAny (model X.prog X.w) X.A (storeName X.env x r) (fun _ => SP X pins D .next) X.xe s₃) X.xe s₂) X.xe s :=
    thn (he.run pins s σ H _ I want) fun w s1 ⟨y, H1, I1, r1, q1⟩ => thn (ho pins s1 σ H1 v y u w _ I1 ru r1 q1) fun z s2 ⟨zv, H2, I2, r2, q2⟩ => store_ok I2 hN hi hx r2 (fun s3 I3 => ⟨_, H2, I3, q2⟩) hf
  rcases there with ⟨hk, hm⟩ | ⟨hk | hk, c, hc, hcell⟩
  · exact wpAny_loadName_local I.ok.kind hk hn hm run
  · exact wpAny_loadName_cell I.ok.kind hk hc hcell run
  · have free : X.env.scope.names.lookup x = some .free := hk
    exact hx.elim (fun k => by rw [k] at free; cases free) fun k => by rw [k] at free; cases free
end
/-! o[i] -/
section
variable {X : Cx} {f C : Addr} {fd : FuncData} {ps : List Str} {sp : Sp} {CX : CXT} {k : Nat} {E : L2.St → XK} {a b : Expr} {ta tb : TE} {pos : Pos}
def tIxOS (C : Addr) (sp : Sp) (E : L2.St → XK) (ta tb : TE) : TE := fun σ H Q => ta σ H fun x H1 => tb σ H1 fun y H2 => ∃ a dx fs, x = .ref a ∧ H2 a = some (.ins C dx fs) ∧ sp [.ref a, y] H2 Q (E σ)
theorem pe_ixOS (hs : Meth X.K C "__getitem__" f) (hfn : PySem.W.fnIn X.K f = true) (F : FnOk X.prog X.w X.K X.mg X.base CX k f fd ps sp) (hr : Room (k + 1) X.A) (hb : Binds X.K fd ps []) (hx : ∀ σ, PassesAt CX X σ (E σ))
    (pa : PE X a ta) (pb : PE X b tb) (hsl : ∀ v u, subscripted b true v u = runValue (.builtin "lifetime.subscript" ⟨[v, u], []⟩) := by intro _ _; with_unfolding_all rfl) : PE X (.Subscript a b pos) (tIxOS C sp E ta tb) := by
  refine ⟨fun pins s σ H Q I h => Subscript_ (binT pa pb I h fun v u s2 x y H2 I2 rx ry ⟨p, dx, fs, ex, hp, q⟩ => ?_)⟩
  subst ex
  cases rx
  obtain ⟨od, J⟩ := inst_in I2 hp
  obtain ⟨m, hF⟩ := I2.fr
  exact PySem.W.sub_K hF I2.ok.mod.kin J hs.at_ hfn hs.fn (run_deepS (vs := [.ref p, y]) F hr.in1 I2.env0.in1 hb (hx σ) I2 (.cons rfl (.cons ry .nil)) q) (hsl _ _)
end
/-! C(e, ..) by a promise on rows -/
section
variable {X : Cx} {CX : CXT} {k : Nat} {f C : Addr} {sp : Sp} {E : L2.St → XK} {x : Str} {e : Expr} {es : List Expr} {t : TA} {p pos : Pos}
def tMakeRS (C : Addr) (sp : Sp) (E : L2.St → XK) (t : TA) : TE := fun σ H Q => t σ H fun vs H1 => ∀ x dx, H1 x = none → H1 dx = none → dx ≠ x → sp (V.ref x :: vs) (upd (upd H1 dx (.own x)) x (.ins C dx [])) (fun v H2 => v = .non ∧ Q (.ref x) H2) (E σ)
theorem pe_makeRS (M : Mk X.K C f) (F : FnR X.prog X.w X.K X.mg X.base CX k f sp) (hr : Room (k + 1) X.A) (hg : Gl X x) (hm : X.mg x = some (.ref C)) (hx : ∀ σ, PassesAt CX X σ (E σ)) (ha : PA X (e :: es) t) (hdb : (x == ("__debug__" : Str)) = false := by decide)
    (he : starEach (e :: es) X.env = (false, eval e X.env) :: starEach es X.env := by rfl) (hpl : (backTo pos (starEach es X.env)).any (·.1) = false := by rfl) : PE X (.Call (.Name x p) (e :: es) [] pos) (tMakeRS C sp E t) := by
  refine ⟨fun pins s σ H Q I h => wpAny_Call_Name_kw (ld_glob I hg hm (PySem.W.callWith_K (h₀ := X.base) I.ok.mod.kin M.kp (thn (ha.run pos pins s σ H _ I h) fun us s1 ⟨vs, H1, I1, r, q⟩ => ⟨I1.kIn, ?_⟩) he hpl) hdb)⟩
  have I2 := Inv.made (C := C) I1
  have want := q (s1.heap.objs.size + 1) s1.heap.objs.size (I1.hok.fresh (Nat.le_succ _)) (I1.hok.fresh (Nat.le_refl _)) (Nat.ne_of_lt (Nat.lt_succ_self _))
  have rows : Vals (V.ref (s1.heap.objs.size + 1) :: vs) (Value.ref (s1.heap.objs.size + 1) :: us) := .cons rfl r
  refine wpAny_call (make_map (f := f) I1.kIn M.makes M.init (beq_iff_eq.mp M.fn) (codeAny_mono (F _ X.stack _ _ (Value.ref (s1.heap.objs.size + 1) :: us) _ _ (E σ) (hr.make C us []) (I2.env0.make C us []) rows want) fun r s' hq' => ?_))
  rcases r with er | fl
  · exact hx σ pins _ _ er s' I2 hq'
  · cases fl with
    | ret u =>
      obtain ⟨v, H', I3, rv, rfl, q3⟩ := I2.after hq'
      exact ⟨rv, V.ref (s1.heap.objs.size + 1), H', I3, rfl, q3⟩
    | next => exact hq'.elim
    | brk => exact hq'.elim
    | cont => exact hq'.elim
theorem r_makeRS {σ : L2.St} {H : Hp} {Q : VK} (q : t σ H fun vs H1 => ∀ x dx, H1 x = none → H1 dx = none → dx ≠ x → sp (V.ref x :: vs) (upd (upd H1 dx (.own x)) x (.ins C dx [])) (fun v H2 => v = .non ∧ Q (.ref x) H2) (E σ)) : tMakeRS C sp E t σ H Q := q
end
/-! o.m(e, ..) -/
section
variable {X : Cx} {CX : CXT} {k : Nat} {f C : Addr} {fd : FuncData} {ps : List Str} {sp : Sp} {E : L2.St → XK} {m : Str} {o e : Expr} {es : List Expr} {ta : TE} {t : TA} {apos pos : Pos}
theorem pe_methE {pl : Sem Bool} (he : PE X o ta) (c : Cls X.K C) (hm : Meth X.K C m f) (F : FnOk X.prog X.w X.K X.mg X.base CX k f fd ps sp) (hr : Room k X.A) (hb : Binds X.K fd ps []) (hx : ∀ σ, PassesAt CX X σ (E σ)) (ha : PA X (e :: es) t) (hst : starEach (e :: es) X.env = (false, eval e X.env) :: starEach es X.env := by rfl)
    (hpl : (backTo pos (starEach es X.env)).any (·.1) = false := by rfl) (ht : eval (.Call (.Attribute o m apos) (e :: es) [] pos) X.env = (do let ov ← eval o X.env; standAt apos.atName; let (g, first) ← holding [ov] (getMethod ov m pl); callWith pos g first (backTo pos (starEach (e :: es) X.env)) (backToKw pos (keywordEach [] X.env))) := by rfl) :
    PE X (.Call (.Attribute o m apos) (e :: es) [] pos) (L2H.tMethH C m sp E ta t) := by
  refine ⟨fun pins s σ H Q I h => PySem.W.methodCall_KW (pl := pl) (thn (he.run pins s σ H _ I h) fun u s1 ⟨x, H1, I1, rx, a, dx, fs, ex, ea, l, q⟩ => ?_) ht⟩
  subst ex
  cases rx
  refine getmeth_ok I1 ea c hm l (PySem.W.callWith_K (first := [.ref a]) (h₀ := X.base) I1.ok.mod.kin hm.kp (thn (ha.run pos pins s1 σ H1 _ I1 q) fun us s2 ⟨vs, H2, I2, r, q2⟩ => ⟨I2.kIn, ?_⟩) hst hpl)
  exact run_deepS (us := .ref a :: us) (vs := .ref a :: vs) F hr I2.env0 hb (hx σ) I2 (.cons rfl r) q2
theorem r_methH {σ : L2.St} {H : Hp} {Q : VK} (q : ta σ H fun x H1 => ∃ a dx fs, x = .ref a ∧ H1 a = some (.ins C dx fs) ∧ fs.lookup m = none ∧ t σ H1 fun vs H2 => sp (x :: vs) H2 Q (E σ)) : L2H.tMethH C m sp E ta t σ H Q := q
end
theorem r_callS {sp : Sp} {E : L2.St → XK} {t : TA} {σ : L2.St} {H : Hp} {Q : VK} (q : t σ H fun vs H1 => sp vs H1 Q (E σ)) : tCallS sp E t σ H Q := q
end AE

set_option Elab.async false
set_option linter.all false
set_option maxRecDepth 100000
set_option maxHeartbeats 2000000
/-! try with several «except C as e», all of one name e -/
namespace AE
open PySem PySem.Spec PyProof.Rows L2 Evl
abbrev Suites := List (Value × (Addr → Value → Option Addr → TS))
/-- what stands behind a suite: e is gone -/
def goneE (i : Nat) (D : Ends) : Ends := { nx := fun σ H => D.nx (σ.set i none) H, rt := D.rt, bk := fun σ H => D.bk (σ.set i none) H, ct := fun σ H => D.ct (σ.set i none) H }
def wManyA (K : PySem.W.Frag) (i : Nat) (Wout : WX) (D : Ends) : Suites → WX
  | [] => Wout
  | (c, ts) :: r => fun cls d σ H => ∃ b, PySem.W.exmOne K cls c = some b ∧ (b = true → ∀ a, H a = none → ts a cls d (goneE i D) (σ.set i (some (.ref a))) H) ∧ (b = false → wManyA K i Wout D r cls d σ H)
inductive HdsA (X : Cx) (n : Str) : List ExceptHandler → Suites → Prop
  | nil : HdsA X n [] []
  | cons {x : Str} {c : Value} {ts : Addr → Value → Option Addr → TS} {b₀ : Stmt} {rest : List Stmt} {np hp : Pos} {hds : List ExceptHandler} {l : Suites} (named : Names X x c)
      (suite : ∀ (a : Addr) (oe : Obj) (cls : Value) (d : Option Addr) (pn : List (Addr × Obj)), L2N.Zn cls d oe → (∃ vs, oe.data = .fields vs) → PSs (X.suite a ((a, oe) :: pn)) (b₀ :: rest) (ts a cls d)) (more : HdsA X n hds l) :
      HdsA X n (.ExceptHandler (some (.Name x np)) (some n) (b₀ :: rest) hp :: hds) ((c, ts) :: l)
section
variable {X : Cx} {n : Str} {i : Nat} {body : List Stmt} {hds : List ExceptHandler} {h₀ : ExceptHandler} {l : Suites} {pos : Pos} {tb : WX → TS} {Wout : WX}
theorem ps_try_manyA (stk : X.stack = X.env :: X.outer) (own : X.env.frame = some X.env.locals) (nd : X.N.Nodup) (at_ : X.N[i]? = some n) (loc : X.env.kindOf n = some .local) (tk : L2N.Takes X Wout)
    (hb : ∀ (W : WX) (pn : List (Addr × Obj)) (xe : Value → Shared → Prop), L2N.Takes (X.tr pn xe) W → PassesOwn (model X.prog X.w) X.A X.env xe → PSs (X.tr pn xe) body (tb W)) (hh : HdsA X n (h₀ :: hds) l) :
    PS X (.Try body (h₀ :: hds) [] [] pos) (fun D σ H => tb (wManyA X.K i Wout D l) D σ H) := by
  refine ⟨fun pins s σ H D I want => ?_⟩
  have okX := I.ok
  have frames : X.A.frames = some (X.env :: X.outer) := by rw [okX.frames, stk]
  have seen : Loc X.env.scope n := .inl loc
  refine wpAny_Try_except (wpAny_mono ((hb (wManyA X.K i Wout D l) (X.pn ++ pins) (fun e s₁ => wpAny (model X.prog X.w) X.A (noteFrame e X.env) (fun _ s₂ => wpAny (model X.prog X.w) X.A (setFlight e none) (fun _ s₃ => wpAny (model X.prog X.w) X.A (handleBy e X.env (h₀ :: hds)) (SP X pins D) X.xe s₃) X.xe s₂) X.xe s₁) (fun u s1 air => ?_) PassesOwn.looking).run [] s σ H D (I.toTry _) want) (fun f s1 done => ?_) fun e s1 he => he)
  · obtain ⟨a, B, sI, pins1, σ1, H1, cls, d, rfl, JT, nb, up, sky, na, os, ag, w⟩ := air
    have J : Inv X pins σ1 H1 sI := JT.ofTry okX
    rw [stk] at sky
    show wpAny (model X.prog X.w) X.A (noteFrame (.ref a) X.env) _ _ _
    refine L2N.Sky.land L2N.Zn.steady frames own sky fun h3 fl3 up3 => ?_
    have J3 : Inv X pins σ1 H1 { s1 with heap := h3 } := J.landed nb fl3.1 (up.trans up3) os ag
    obtain ⟨oe3, vs3, he3, hz3, hd3⟩ := fl3.there
    have apart : a ∉ frs (X.env :: X.outer) := fun hm => by
      obtain ⟨_, o2, e2, plain⟩ := fl3.2.2.1.mem hm
      rw [he3] at e2
      cases e2
      exact plain _ hd3
    have nL : a ≠ X.env.locals := fun z => apart (List.mem_filterMap.mpr ⟨X.env, List.mem_cons_self, by rw [own, z]⟩)
    have nF : a ∉ X.fs := fun hm => (List.mem_filterMap.mp hm).elim fun e ⟨he, q⟩ => apart (List.mem_filterMap.mpr ⟨e, List.mem_cons_of_mem _ he, q⟩)
    have S3 := J3.suite he3 hd3 na nL nF
    have walk : ∀ {hs1 : List ExceptHandler} {l1 : Suites}, HdsA X n hs1 l1 → wManyA X.K i Wout D l1 cls d σ1 H1 → wpAny (model X.prog X.w) X.A (handleBy (.ref a) X.env hs1) (SP X pins D) X.xe { s1 with heap := h3 } := by
      intro hs1 l1 hk
      induction hk with
      | nil =>
        intro w
        obtain ⟨_, _, _, oe, vs, T, oT, _, he, hz, hd, h1, _⟩ := id fl3
        refine wpAny_handleBy_nil ?_
        unfold PySem.passOn
        refine wpAny_bind (wpAny_field he hd h1 ?_)
        rw [if_neg (show ¬ ((Value.ref T == Value.none) = true) by simp)]
        have out : wpAny (model X.prog X.w) X.A (setFlight (.ref a) X.env.frame) (fun _ s4 => wpAny (model X.prog X.w) X.A (throw (.ref a) : Sem Flow) (SP X pins D) X.xe s4) X.xe { s1 with heap := h3 } := by
          rw [own]
          exact HandSPX.setFlight_upZ fl3 fun h4 held up4 => wpAny_throw (tk _ _ ⟨a, B, sI, pins, σ1, H1, cls, d, rfl, J, nb, (up.trans up3).trans up4, .inr (.inr (by rw [stk]; exact held)), na, os, ag, w⟩)
        first
          | exact wpAny_bind (wpAny_pure (wpAny_bind out))
          | exact wpAny_bind out
      | @cons x c ts b₀ rest np hp hds2 l2 named suite more ih =>
        rintro ⟨b, hb1, yes, no⟩
        refine wpAny_handleBy_cons (codeAny_handlers_test ?_) (by intro q; cases q)
        have kind : PySem.W.Looks (model X.prog X.w) h3 (typeOf (.ref a)) cls := fun A Q E s k q => wpAny_typeOf_ref (k _ _ he3) (by rw [hz3.1]; exact q)
        have fits := PySem.W.exm_one (M := model X.prog X.w) (J3.kIn) kind hb1
        have asked : ∀ {Q : Value → Shared → Prop} {E : Value → Shared → Prop}, Q c { s1 with heap := h3 } → wpAny (model X.prog X.w) (X.A.mark (some (.ref a))) (eval (.Name x np) X.env) Q E { s1 with heap := h3 } := fun {Q E} q => by
          obtain ⟨hg, hdb, hm | ⟨hm, hv, hn⟩⟩ := named
          · exact ld_glob (X := X.suite a ((a, oe3) :: (X.pn ++ pins))) S3 hg hm q hdb
          · exact ld_blt (X := X.suite a ((a, oe3) :: (X.pn ++ pins))) S3 hg hm hv q hn hdb
        refine asked (fits.here ?_)
        cases b with
        | false =>
          show wpAny _ X.A (handleBy (.ref a) X.env hds2) _ _ _
          exact ih (no rfl)
        | true =>
          refine codeAny_handlers_suite_as (HandSPX.lands_againZ fl3 fun h4 fl4 up4 => ?_)
          have J4 : Inv X pins σ1 H1 { s1 with heap := h4 } := J.landed nb fl4.1 ((up.trans up3).trans up4) os ag
          obtain ⟨oe4, vs4, he4, hz4, hd4⟩ := fl4.there
          refine store_ok (X := X.suite a ((a, oe4) :: (X.pn ++ pins))) (v := .ref a) (J4.suite he4 hd4 na nL nF) nd at_ seen rfl (fun s5 S5 => ?_) (.inr loc)
          refine wpAny_mono ((suite a oe4 cls d (X.pn ++ pins) hz4 ⟨_, hd4⟩).run [] s5 _ H1 _ S5 (yes rfl a na)) (fun f s6 done => ?_) fun _ _ z => z.elim
          have gone : ∀ {σ6 : L2.St} {H6 : Hp} {Q : Shared → Prop}, Inv (X.suite a ((a, oe4) :: (X.pn ++ pins))) [] σ6 H6 s6 → (∀ s7, Inv X pins (σ6.set i none) H6 s7 → Q s7) → wpAny (model X.prog X.w) X.A (do bindName X.env n .none; unbindBehindTheSuite X.env n hp) (fun _ s7 => Q s7) X.xe s6 :=
            fun {σ6 H6 Q} S6 hq => gone_ok (S6.unsuite okX) nd at_ loc hq
          cases f with
          | next => exact done.elim fun σ6 z => z.elim fun H6 ⟨S6, q6⟩ => gone S6 fun s7 J7 => ⟨_, _, J7, q6⟩
          | brk => exact done.elim fun σ6 z => z.elim fun H6 ⟨S6, q6⟩ => gone S6 fun s7 J7 => ⟨_, _, J7, q6⟩
          | cont => exact done.elim fun σ6 z => z.elim fun H6 ⟨S6, q6⟩ => gone S6 fun s7 J7 => ⟨_, _, J7, q6⟩
          | ret u => exact done.elim fun v6 z => z.elim fun σ6 z => z.elim fun H6 ⟨S6, r6, q6⟩ => gone S6 fun s7 J7 => ⟨_, _, _, J7, r6, q6⟩
    exact walk hh w
  · cases f with
    | next => exact done.elim fun σ1 z => z.elim fun H1 ⟨J, q⟩ => wpAny_execs_nil ⟨σ1, H1, J.ofTry okX, q⟩
    | brk => exact done.elim fun σ1 z => z.elim fun H1 ⟨J, q⟩ => ⟨σ1, H1, J.ofTry okX, q⟩
    | cont => exact done.elim fun σ1 z => z.elim fun H1 ⟨J, q⟩ => ⟨σ1, H1, J.ofTry okX, q⟩
    | ret u => exact done.elim fun v z => z.elim fun σ1 z => z.elim fun H1 ⟨J, r, q⟩ => ⟨v, σ1, H1, J.ofTry okX, r, q⟩
end
end AE
namespace AE
open PySem PySem.Spec PyProof.Rows L2 Evl
/-- a promise by rows, the defaults behind them -/
theorem fnR_of {P : Program} {w : World} {K : PySem.W.Frag} {mg : Str → Option Value} {base : Heap} {CX : CXT} {k : Nat} {f : Addr} {fd : FuncData} {ps : List Str} {sp : Sp} {ds : List Value} {dvs : List V} (F : FnOk P w K mg base CX k f fd ps sp) (hb : Binds K fd ps ds) (hd : Vals dvs ds) :
    FnR P w K mg base CX k f (fun vs H Q E => sp (vs ++ dvs) H Q E) := by
  intro A outer s H us vs Q E hr e0 r want
  have inK : K.In s.heap := e0.mod.kin.keeps fun b o e => (e0.bs b o e).1
  have all := r.append hd
  exact F.run A outer s H ⟨us, []⟩ (us ++ ds) (vs ++ dvs) Q E hr e0 (hb s us inK (by rw [← all.length]; exact F.len _ _ _ _ want)) all want
end AE
namespace AE
open PySem PySem.Spec PyProof.Rows L2 Evl
/-- an error of the class at S is not what «except D» names -/
theorem exm_otherE {K : PySem.W.Frag} {S D : Addr} (h1 : PySem.W.subIn K (.ref D) (.type "BaseException") = some true) (h2 : PySem.W.isClsIn K D = true) (h3 : PySem.W.typeIn K (.ref D) = some (.type "type")) (h4 : PySem.W.subIn K (.ref S) (.ref D) = some false) :
    PySem.W.exmOne K (.ref S) (.ref D) = some false := by
  have h2' : (PySem.W.clsIn K D).isSome = true := h2
  unfold PySem.W.exmOne PySem.W.kitCls
  simp only [h1, h2', h3, h4, beq_self_eq_true, Bool.and_self, if_true]
end AE

set_option Elab.async false
set_option linter.all false
set_option maxRecDepth 100000
set_option maxHeartbeats 1000000
/-! ints of either sign and tuples of ints in an f-string -/
namespace AE
open PySem PySem.Spec PyProof.Rows L2 Evl
theorem int_len {i : Int} (h : i.natAbs < 10 ^ 9) : (Str.ofString (toString i)).length ≤ 10 := by
  have := int_text_length_le10 (k := 9) (by decide) h
  rw [PySem.ofString_length]
  exact this
theorem int_log {i : Int} (h : i.natAbs < 10 ^ 9) : i.natAbs.log2 < 1920 := by
  by_cases h0 : i.natAbs = 0
  · rw [h0]
    decide
  · have := (Nat.log2_lt h0 (k := 40)).mpr (by omega)
    omega
section
variable {σ : L2.St} {H : Hp} {Q : Str → Hp → Prop} {ts : List TE} {acc : Str} {n m : Nat}
theorem js_z {i : Nat} {e : Int} (h : σ[i]? = some (some (.int e))) (ha : acc.length ≤ n) (he : e.natAbs < 10 ^ 9) (hs : n + 10 ≤ 100000) (q : ∀ y : Str, (acc ++ y).length ≤ n + 10 → tJs ts (acc ++ y) σ H Q) : tJs (tFmt (tVar i) :: ts) acc σ H Q := by
  have l : (acc ++ Str.ofString (toString e)).length ≤ n + 10 := by
    rw [len_app]
    have := int_len he
    omega
  exact ⟨_, h, .inr ⟨e, rfl, int_log he, Str.ofString (toString e), rfl, Nat.le_trans l (sz_of hs), q _ l⟩⟩
end
/-! {t}, t a tuple of ints -/
theorem reprs_int {prog : Program} {w : World} : ∀ {l : List Int} {its : List Value}, Vals (l.map V.int) its → (∀ y ∈ l, y.natAbs < 10 ^ 9) → ReprAll prog w its (l.map fun i : Int => Str.ofString (toString i))
  | [], _, r, _ => by
    cases r
    exact .nil
  | y :: l, _, r, h => by
    cases r with
    | cons r1 r2 =>
      obtain ⟨t, rfl⟩ := r1
      exact .cons (ReprIs.int t (int_log (h y List.mem_cons_self))) (reprs_int r2 fun z hz => h z (List.mem_cons_of_mem _ hz))
theorem piled_ints : ∀ l : List Int, (∀ y ∈ l, y.natAbs < 10 ^ 9) → piled (l.map fun i : Int => Str.ofString (toString i)) ≤ 12 * l.length
  | [], _ => Nat.zero_le _
  | y :: l, h => by
    have h1 := int_len (h y List.mem_cons_self)
    have h2 := piled_ints l fun z hz => h z (List.mem_cons_of_mem _ hz)
    rw [List.map_cons, piled_cons, List.length_cons]
    omega
section
variable {X : Cx}
/-- some text, of at most 12 signs an item and some -/
def tFmtI (K : PySem.W.Frag) (te : TE) : TE := fun σ H Q => te σ H fun x H1 => ∃ (a : Addr) (l : List Int), x = .ref a ∧ SqT K H1 a (l.map V.int) ∧ (∀ y ∈ l, y.natAbs < 10 ^ 9) ∧ l.length ≤ 100 ∧ ∀ m : Str, m.length ≤ 1207 → Q (.str m) H1
theorem pe_fmtI {e : Expr} {te : TE} {pos : Pos} {k : Nat} (hr : Room k X.A) (he : PE X e te) : PE X (.FormattedValue e (-1) none pos) (tFmtI X.K te) := by
  refine ⟨fun pins s σ H Q I h => wpAny_FormattedValue_plain (thn (he.run pins s σ H _ I h) fun v s1 ⟨x, H1, I1, r1, a, l, ex, ht, hc, hz, q⟩ => ?_)⟩
  subst ex
  cases r1
  obtain ⟨its, rv, ⟨o, ho, hcl, n, hd⟩, _⟩ := I1.tuple ht
  have hp := piled_ints l hc
  have htx := fmt_text (l.map fun i : Int => Str.ofString (toString i))
  have hu := hr.units
  have big : 1300 ≤ sizeLine := by decide
  exact fmt_tuple (ts := l.map fun i : Int => Str.ofString (toString i)) (by omega) ho hcl hd (reprs_int rv hc) (by omega) fun m u tk hm => ⟨.str m, H1, I1.tok _, ⟨u, rfl⟩, q m (by omega)⟩
theorem js_I {K : PySem.W.Frag} {σ : L2.St} {H : Hp} {Q : Str → Hp → Prop} {ts : List TE} {acc : Str} {n i : Nat} {a : Addr} {l : List Int} (h : σ[i]? = some (some (.ref a))) (ht : SqT K H a (l.map V.int)) (hc : ∀ y ∈ l, y.natAbs < 10 ^ 9) (hl : l.length ≤ 100) (ha : acc.length ≤ n) (hs : n + 1207 ≤ 100000)
    (q : ∀ y : Str, (acc ++ y).length ≤ n + 1207 → tJs ts (acc ++ y) σ H Q) : tJs (tFmtI K (tVar i) :: ts) acc σ H Q := by
  refine ⟨_, h, a, l, rfl, ht, hc, hl, fun m hm => ?_⟩
  have l : (acc ++ m).length ≤ n + 1207 := by
    rw [len_app]
    omega
  exact ⟨m, rfl, Nat.le_trans l (sz_of hs), q _ l⟩
end
end AE


set_option Elab.async false
set_option linter.all false
set_option maxRecDepth 100000
set_option maxHeartbeats 4000000
namespace K12
open PySem PySem.Spec PyProof.Rows L2 Evl AE
abbrev N__law_cell : List Str := ["_law_script", "_law_k"]
theorem sc__law_cell : FnScope N__law_cell ["_law_script", "_law_k"] (defScope s__law_cell) := ⟨rfl, rfl, rfl, by decide +kernel, rfl, by decide +kernel, by decide +kernel⟩
abbrev N__law_draws : List Str := ["_law_script", "_law_k", "_law_many", "_law_cell_here", "_law_row", "_law_rest", "_law_turn", "_law_seed"]
theorem sc__law_draws : FnScope N__law_draws ["_law_script", "_law_k", "_law_many"] (defScope s__law_draws) := ⟨rfl, rfl, rfl, by decide +kernel, rfl, by decide +kernel, by decide +kernel⟩
abbrev N__law_asks : List Str := ["_law_row", "_law_many", "_law_letters", "_law_word", "_law_digit", "_law_asks_here", "_law_at", "_law_size", "_law_place", "_law_jump", "_law_letter"]
theorem sc__law_asks : FnScope N__law_asks ["_law_row", "_law_many"] (defScope s__law_asks) := ⟨rfl, rfl, rfl, by decide +kernel, rfl, by decide +kernel, by decide +kernel⟩
abbrev N__law_marks : List Str := ["_law_digit", "_law_size", "_law_state"]
theorem sc__law_marks : FnScope N__law_marks ["_law_digit", "_law_size"] (defScope s__law_marks) := ⟨rfl, rfl, rfl, by decide +kernel, rfl, by decide +kernel, by decide +kernel⟩
abbrev N__law_random : List Str := ["_law_row", "_law_asks_here", "_law_size", "_law_steps", "_law_state", "_law_j", "_law_digit", "_law_way"]
theorem sc__law_random : FnScope N__law_random ["_law_row", "_law_asks_here"] (defScope s__law_random) := ⟨rfl, rfl, rfl, by decide +kernel, rfl, by decide +kernel, by decide +kernel⟩
abbrev N__law_pairs : List Str := ["_law_plain", "_law_asks_here", "_law_there", "_law_step", "_law_pairs_here", "_law_state", "_law_row", "_law_ask", "_law_way"]
theorem sc__law_pairs : FnScope N__law_pairs ["_law_plain", "_law_asks_here"] (defScope s__law_pairs) := ⟨rfl, rfl, rfl, by decide +kernel, rfl, by decide +kernel, by decide +kernel⟩
abbrev N__law_client : List Str := ["_law_plain"]
theorem sc__law_client : FnScope N__law_client ["_law_plain"] (defScope s__law_client) := ⟨rfl, rfl, rfl, by decide +kernel, rfl, by decide +kernel, by decide +kernel⟩
abbrev N__law_copied : List Str := ["_law_row", "_law_plain", "_law_asks_here", "_law_size", "_law_of", "_law_at", "_law_marks_here", "_law_steps", "_law_turn", "_law_state", "_law_ask", "_law_way", "_law_end"]
theorem sc__law_copied : FnScope N__law_copied ["_law_row", "_law_plain", "_law_asks_here"] (defScope s__law_copied) := ⟨rfl, rfl, rfl, by decide +kernel, rfl, by decide +kernel, by decide +kernel⟩
abbrev N__law_strike : List Str := ["_law_first", "_law_one", "_law_two", "_law_there", "_law_changed", "_law_a", "_law_b", "_law_pair", "_law_ask", "_law_way", "_law_answers"]
theorem sc__law_strike : FnScope N__law_strike ["_law_first", "_law_one", "_law_two", "_law_there"] (defScope s__law_strike) := ⟨rfl, rfl, rfl, by decide +kernel, rfl, by decide +kernel, by decide +kernel⟩
abbrev N__law_follows : List Str := ["_law_first", "_law_second", "_law_asks_here", "_law_one", "_law_two", "_law_there", "_law_a", "_law_b", "_law_turn"]
theorem sc__law_follows : FnScope N__law_follows ["_law_first", "_law_second", "_law_asks_here"] (defScope s__law_follows) := ⟨rfl, rfl, rfl, by decide +kernel, rfl, by decide +kernel, by decide +kernel⟩
abbrev N__law_compared : List Str := ["_law_one", "_law_two", "_law_due", "_law_found"]
theorem sc__law_compared : FnScope N__law_compared ["_law_one", "_law_two", "_law_due"] (defScope s__law_compared) := ⟨rfl, rfl, rfl, by decide +kernel, rfl, by decide +kernel, by decide +kernel⟩
abbrev N_law : List Str := ["_law_script", "_law_shape", "_law_names", "_law_asks_here", "_law_ask", "_law_first", "_law_second", "_law_one", "_law_two", "_law_turn"]
theorem sc_law : FnScope N_law ["_law_script"] (defScope s_law) := ⟨rfl, rfl, rfl, by decide +kernel, rfl, by decide +kernel, by decide +kernel⟩
abbrev N_check_size : List Str := ["size"]
theorem sc_check_size : FnScope N_check_size ["size"] (defScope s_check_size) := ⟨rfl, rfl, rfl, by decide +kernel, rfl, by decide +kernel, by decide +kernel⟩
abbrev N_check_marks : List Str := ["size", "marks", "mark"]
theorem sc_check_marks : FnScope N_check_marks ["size", "marks"] (defScope s_check_marks) := ⟨rfl, rfl, rfl, by decide +kernel, rfl, by decide +kernel, by decide +kernel⟩
abbrev N_check_steps : List Str := ["size", "steps", "state", "ask", "end"]
theorem sc_check_steps : FnScope N_check_steps ["size", "steps"] (defScope s_check_steps) := ⟨rfl, rfl, rfl, by decide +kernel, rfl, by decide +kernel, by decide +kernel⟩
abbrev N_is_ask : List Str := ["ask", "letter"]
theorem sc_is_ask : FnScope N_is_ask ["ask"] (defScope s_is_ask) := ⟨rfl, rfl, rfl, by decide +kernel, rfl, by decide +kernel, by decide +kernel⟩
abbrev N_ascending : List Str := ["steps", "named", "state", "ask", "end", "name"]
theorem sc_ascending : FnScope N_ascending ["steps"] (defScope s_ascending) := ⟨rfl, rfl, rfl, by decide +kernel, rfl, by decide +kernel, by decide +kernel⟩
abbrev N_ends_by_ask : List Str := ["steps", "found", "state", "ask", "end", "place"]
theorem sc_ends_by_ask : FnScope N_ends_by_ask ["steps"] (defScope s_ends_by_ask) := ⟨rfl, rfl, rfl, by decide +kernel, rfl, by decide +kernel, by decide +kernel⟩
abbrev N_pairs_by_state : List Str := ["steps", "found", "state", "ask", "end"]
theorem sc_pairs_by_state : FnScope N_pairs_by_state ["steps"] (defScope s_pairs_by_state) := ⟨rfl, rfl, rfl, by decide +kernel, rfl, by decide +kernel, by decide +kernel⟩
abbrev N_Machine___init__ : List Str := ["self", "size", "marks", "steps", "now", "rows", "marked", "mark", "state"]
theorem sc_Machine___init__ : FnScope N_Machine___init__ ["self", "size", "marks", "steps", "now"] (defScope s_Machine___init__) := ⟨rfl, rfl, rfl, by decide +kernel, rfl, by decide +kernel, by decide +kernel⟩
abbrev N_Machine___getitem__ : List Str := ["self", "at"]
theorem sc_Machine___getitem__ : FnScope N_Machine___getitem__ ["self", "at"] (defScope s_Machine___getitem__) := ⟨rfl, rfl, rfl, by decide +kernel, rfl, by decide +kernel, by decide +kernel⟩
abbrev N_Machine_ends_at : List Str := ["self", "state", "ask"]
theorem sc_Machine_ends_at : FnScope N_Machine_ends_at ["self", "state", "ask"] (defScope s_Machine_ends_at) := ⟨rfl, rfl, rfl, by decide +kernel, rfl, by decide +kernel, by decide +kernel⟩
abbrev N_Machine_pairs_at : List Str := ["self", "state"]
theorem sc_Machine_pairs_at : FnScope N_Machine_pairs_at ["self", "state"] (defScope s_Machine_pairs_at) := ⟨rfl, rfl, rfl, by decide +kernel, rfl, by decide +kernel, by decide +kernel⟩
abbrev N_Machine___bool__ : List Str := ["self"]
theorem sc_Machine___bool__ : FnScope N_Machine___bool__ ["self"] (defScope s_Machine___bool__) := ⟨rfl, rfl, rfl, by decide +kernel, rfl, by decide +kernel, by decide +kernel⟩
abbrev N_Pattern___le__ : List Str := ["self", "other"]
theorem sc_Pattern___le__ : FnScope N_Pattern___le__ ["self", "other"] (defScope s_Pattern___le__) := ⟨rfl, rfl, rfl, by decide +kernel, rfl, by decide +kernel, by decide +kernel⟩
abbrev N_PatternDuel___init__ : List Str := ["self", "first", "second"]
theorem sc_PatternDuel___init__ : FnScope N_PatternDuel___init__ ["self", "first", "second"] (defScope s_PatternDuel___init__) := ⟨rfl, rfl, rfl, by decide +kernel, rfl, by decide +kernel, by decide +kernel⟩
abbrev N_PatternDuel_tasks_at : List Str := ["self", "place", "mine", "theirs", "other", "ask", "way"]
theorem sc_PatternDuel_tasks_at : FnScope N_PatternDuel_tasks_at ["self", "place"] (defScope s_PatternDuel_tasks_at) := ⟨rfl, rfl, rfl, by decide +kernel, rfl, by decide +kernel, by decide +kernel⟩
abbrev N_is_held : List Str := ["duel", "start", "tasks"]
theorem sc_is_held : FnScope N_is_held ["duel", "start"] (defScope s_is_held) := ⟨rfl, rfl, rfl, by decide +kernel, rfl, by decide +kernel, by decide +kernel⟩
abbrev N_reached_tasks : List Str := ["duel", "start", "tasks", "found", "place", "options", "afters", "after"]
theorem sc_reached_tasks : FnScope N_reached_tasks ["duel", "start"] (defScope s_reached_tasks) := ⟨rfl, rfl, rfl, by decide +kernel, rfl, by decide +kernel, by decide +kernel⟩
abbrev N_beaten_places : List Str := ["tasks", "uses", "left", "place", "task", "options", "beaten", "waiting", "failed", "lost", "use", "_"]
theorem sc_beaten_places : FnScope N_beaten_places ["tasks"] (defScope s_beaten_places) := ⟨rfl, rfl, rfl, by decide +kernel, rfl, by decide +kernel, by decide +kernel⟩
abbrev N_option_uses : List Str := ["tasks", "uses", "place", "task", "options", "option", "afters", "after"]
theorem sc_option_uses : FnScope N_option_uses ["tasks"] (defScope s_option_uses) := ⟨rfl, rfl, rfl, by decide +kernel, rfl, by decide +kernel, by decide +kernel⟩
/-- a class of machines -/
structure MCls (K : PySem.W.Frag) (C : Addr) : Prop where
  cl : Cls K C
  n1 : NoAttr K C "size"
  n2 : NoAttr K C "marks"
  n3 : NoAttr K C "steps"
  n4 : NoAttr K C "now"
  n5 : NoAttr K C "_ends"
  n6 : NoAttr K C "_pairs"
/-- what isinstance asks of it -/
structure OCls (K : PySem.W.Frag) (C : Addr) : Prop where
  o1 : PySem.W.findIn K (.ref C) "__class__" = some (some (.builtin "object.__class__"))
  o2 : PySem.W.specialIn K (.builtin "object.__class__") "__get__" = some (some (.builtin "getset_descriptor.__get__"))
  o3 : PySem.W.takesIn K (.builtin "object.__class__") = some true
  o4 : PySem.W.mroIn K C (.type "object") = some true
/-- what the top leaves -/
structure Tp (K : PySem.W.Frag) (mg : Str → Option Value) where
  C_Machine : Addr
  g_Machine : mg "Machine" = some (.ref C_Machine)
  C_Service : Addr
  g_Service : mg "Pattern" = some (.ref C_Service)
  C_Pattern : Addr
  g_Pattern : mg "Pattern" = some (.ref C_Pattern)
  C_PatternDuel : Addr
  g_PatternDuel : mg "PatternDuel" = some (.ref C_PatternDuel)
  a__law_cell : Addr
  d__law_cell : FuncData
  f__law_cell : Fun K "_law_cell" "_law_cell" s__law_cell a__law_cell d__law_cell
  b__law_cell : Binds K d__law_cell ["_law_script", "_law_k"] []
  g__law_cell : mg "_law_cell" = some (.ref a__law_cell)
  a__law_draws : Addr
  d__law_draws : FuncData
  f__law_draws : Fun K "_law_draws" "_law_draws" s__law_draws a__law_draws d__law_draws
  b__law_draws : Binds K d__law_draws ["_law_script", "_law_k", "_law_many"] []
  g__law_draws : mg "_law_draws" = some (.ref a__law_draws)
  a__law_asks : Addr
  d__law_asks : FuncData
  f__law_asks : Fun K "_law_asks" "_law_asks" s__law_asks a__law_asks d__law_asks
  b__law_asks : Binds K d__law_asks ["_law_row", "_law_many"] []
  g__law_asks : mg "_law_asks" = some (.ref a__law_asks)
  a__law_marks : Addr
  d__law_marks : FuncData
  f__law_marks : Fun K "_law_marks" "_law_marks" s__law_marks a__law_marks d__law_marks
  b__law_marks : Binds K d__law_marks ["_law_digit", "_law_size"] []
  g__law_marks : mg "_law_marks" = some (.ref a__law_marks)
  a__law_random : Addr
  d__law_random : FuncData
  f__law_random : Fun K "_law_random" "_law_random" s__law_random a__law_random d__law_random
  b__law_random : Binds K d__law_random ["_law_row", "_law_asks_here"] []
  g__law_random : mg "_law_random" = some (.ref a__law_random)
  a__law_pairs : Addr
  d__law_pairs : FuncData
  f__law_pairs : Fun K "_law_pairs" "_law_pairs" s__law_pairs a__law_pairs d__law_pairs
  b__law_pairs : Binds K d__law_pairs ["_law_plain", "_law_asks_here"] []
  g__law_pairs : mg "_law_pairs" = some (.ref a__law_pairs)
  a__law_client : Addr
  d__law_client : FuncData
  f__law_client : Fun K "_law_client" "_law_client" s__law_client a__law_client d__law_client
  b__law_client : Binds K d__law_client ["_law_plain"] []
  g__law_client : mg "_law_client" = some (.ref a__law_client)
  a__law_copied : Addr
  d__law_copied : FuncData
  f__law_copied : Fun K "_law_copied" "_law_copied" s__law_copied a__law_copied d__law_copied
  b__law_copied : Binds K d__law_copied ["_law_row", "_law_plain", "_law_asks_here"] []
  g__law_copied : mg "_law_copied" = some (.ref a__law_copied)
  a__law_strike : Addr
  d__law_strike : FuncData
  f__law_strike : Fun K "_law_strike" "_law_strike" s__law_strike a__law_strike d__law_strike
  b__law_strike : Binds K d__law_strike ["_law_first", "_law_one", "_law_two", "_law_there"] []
  g__law_strike : mg "_law_strike" = some (.ref a__law_strike)
  a__law_follows : Addr
  d__law_follows : FuncData
  f__law_follows : Fun K "_law_follows" "_law_follows" s__law_follows a__law_follows d__law_follows
  b__law_follows : Binds K d__law_follows ["_law_first", "_law_second", "_law_asks_here"] []
  g__law_follows : mg "_law_follows" = some (.ref a__law_follows)
  a__law_compared : Addr
  d__law_compared : FuncData
  f__law_compared : Fun K "_law_compared" "_law_compared" s__law_compared a__law_compared d__law_compared
  b__law_compared : Binds K d__law_compared ["_law_one", "_law_two", "_law_due"] []
  g__law_compared : mg "_law_compared" = some (.ref a__law_compared)
  a_law : Addr
  d_law : FuncData
  f_law : Fun K "law" "law" s_law a_law d_law
  b_law : Binds K d_law ["_law_script"] []
  g_law : mg "law" = some (.ref a_law)
  a_check_size : Addr
  d_check_size : FuncData
  f_check_size : Fun K "check_size" "check_size" s_check_size a_check_size d_check_size
  b_check_size : Binds K d_check_size ["size"] []
  g_check_size : mg "check_size" = some (.ref a_check_size)
  a_check_marks : Addr
  d_check_marks : FuncData
  f_check_marks : Fun K "check_marks" "check_marks" s_check_marks a_check_marks d_check_marks
  b_check_marks : Binds K d_check_marks ["size", "marks"] []
  g_check_marks : mg "check_marks" = some (.ref a_check_marks)
  a_check_steps : Addr
  d_check_steps : FuncData
  f_check_steps : Fun K "check_steps" "check_steps" s_check_steps a_check_steps d_check_steps
  b_check_steps : Binds K d_check_steps ["size", "steps"] []
  g_check_steps : mg "check_steps" = some (.ref a_check_steps)
  a_is_ask : Addr
  d_is_ask : FuncData
  f_is_ask : Fun K "is_ask" "is_ask" s_is_ask a_is_ask d_is_ask
  b_is_ask : Binds K d_is_ask ["ask"] []
  g_is_ask : mg "is_ask" = some (.ref a_is_ask)
  a_ascending : Addr
  d_ascending : FuncData
  f_ascending : Fun K "ascending" "ascending" s_ascending a_ascending d_ascending
  b_ascending : Binds K d_ascending ["steps"] []
  g_ascending : mg "ascending" = some (.ref a_ascending)
  a_ends_by_ask : Addr
  d_ends_by_ask : FuncData
  f_ends_by_ask : Fun K "ends_by_ask" "ends_by_ask" s_ends_by_ask a_ends_by_ask d_ends_by_ask
  b_ends_by_ask : Binds K d_ends_by_ask ["steps"] []
  g_ends_by_ask : mg "ends_by_ask" = some (.ref a_ends_by_ask)
  a_pairs_by_state : Addr
  d_pairs_by_state : FuncData
  f_pairs_by_state : Fun K "pairs_by_state" "pairs_by_state" s_pairs_by_state a_pairs_by_state d_pairs_by_state
  b_pairs_by_state : Binds K d_pairs_by_state ["steps"] []
  g_pairs_by_state : mg "pairs_by_state" = some (.ref a_pairs_by_state)
  a_Machine___init__ : Addr
  d_Machine___init__ : FuncData
  f_Machine___init__ : FunD K "__init__" "Machine.__init__" (defArgs s_Machine___init__) (defBody s_Machine___init__) (defScope s_Machine___init__) [.int 0] [] a_Machine___init__ d_Machine___init__
  a_Machine___getitem__ : Addr
  d_Machine___getitem__ : FuncData
  f_Machine___getitem__ : Fun K "__getitem__" "Machine.__getitem__" s_Machine___getitem__ a_Machine___getitem__ d_Machine___getitem__
  b_Machine___getitem__ : Binds K d_Machine___getitem__ ["self", "at"] []
  a_Machine_ends_at : Addr
  d_Machine_ends_at : FuncData
  f_Machine_ends_at : Fun K "ends_at" "Machine.ends_at" s_Machine_ends_at a_Machine_ends_at d_Machine_ends_at
  b_Machine_ends_at : Binds K d_Machine_ends_at ["self", "state", "ask"] []
  a_Machine_pairs_at : Addr
  d_Machine_pairs_at : FuncData
  f_Machine_pairs_at : Fun K "pairs_at" "Machine.pairs_at" s_Machine_pairs_at a_Machine_pairs_at d_Machine_pairs_at
  b_Machine_pairs_at : Binds K d_Machine_pairs_at ["self", "state"] []
  a_Machine___bool__ : Addr
  d_Machine___bool__ : FuncData
  f_Machine___bool__ : Fun K "__bool__" "Machine.__bool__" s_Machine___bool__ a_Machine___bool__ d_Machine___bool__
  b_Machine___bool__ : Binds K d_Machine___bool__ ["self"] []
  a_Pattern___le__ : Addr
  d_Pattern___le__ : FuncData
  f_Pattern___le__ : Fun K "__le__" "Pattern.__le__" s_Pattern___le__ a_Pattern___le__ d_Pattern___le__
  b_Pattern___le__ : Binds K d_Pattern___le__ ["self", "other"] []
  a_PatternDuel___init__ : Addr
  d_PatternDuel___init__ : FuncData
  f_PatternDuel___init__ : Fun K "__init__" "PatternDuel.__init__" s_PatternDuel___init__ a_PatternDuel___init__ d_PatternDuel___init__
  b_PatternDuel___init__ : Binds K d_PatternDuel___init__ ["self", "first", "second"] []
  a_PatternDuel_tasks_at : Addr
  d_PatternDuel_tasks_at : FuncData
  f_PatternDuel_tasks_at : Fun K "tasks_at" "PatternDuel.tasks_at" s_PatternDuel_tasks_at a_PatternDuel_tasks_at d_PatternDuel_tasks_at
  b_PatternDuel_tasks_at : Binds K d_PatternDuel_tasks_at ["self", "place"] []
  a_is_held : Addr
  d_is_held : FuncData
  f_is_held : Fun K "is_held" "is_held" s_is_held a_is_held d_is_held
  b_is_held : Binds K d_is_held ["duel", "start"] []
  g_is_held : mg "is_held" = some (.ref a_is_held)
  a_reached_tasks : Addr
  d_reached_tasks : FuncData
  f_reached_tasks : Fun K "reached_tasks" "reached_tasks" s_reached_tasks a_reached_tasks d_reached_tasks
  b_reached_tasks : Binds K d_reached_tasks ["duel", "start"] []
  g_reached_tasks : mg "reached_tasks" = some (.ref a_reached_tasks)
  a_beaten_places : Addr
  d_beaten_places : FuncData
  f_beaten_places : Fun K "beaten_places" "beaten_places" s_beaten_places a_beaten_places d_beaten_places
  b_beaten_places : Binds K d_beaten_places ["tasks"] []
  g_beaten_places : mg "beaten_places" = some (.ref a_beaten_places)
  a_option_uses : Addr
  d_option_uses : FuncData
  f_option_uses : Fun K "option_uses" "option_uses" s_option_uses a_option_uses d_option_uses
  b_option_uses : Binds K d_option_uses ["tasks"] []
  g_option_uses : mg "option_uses" = some (.ref a_option_uses)
  t_MOST_STATES : Tok
  k_MOST_STATES : mg "MOST_STATES" = some (.int (200) t_MOST_STATES)
  t_MOST_STEPS : Tok
  k_MOST_STEPS : mg "MOST_STEPS" = some (.int (600) t_MOST_STEPS)
  t_LONGEST_ASK : Tok
  k_LONGEST_ASK : mg "LONGEST_ASK" = some (.int (8) t_LONGEST_ASK)
  n_len : mg "len" = none
  n_int : mg "int" = none
  n_range : mg "range" = none
  n_isinstance : mg "isinstance" = none
  n_bool : mg "bool" = none
  n_list : mg "list" = none
  n_tuple : mg "tuple" = none
  n_all : mg "all" = none
  n_sorted : mg "sorted" = none
  n_str : mg "str" = none
  n_enumerate : mg "enumerate" = none
  cl_Service : Cls K C_Service
  na_Service_size : NoAttr K C_Service "size"
  na_Service_marks : NoAttr K C_Service "marks"
  na_Service_steps : NoAttr K C_Service "steps"
  na_Service_now : NoAttr K C_Service "now"
  na_Service__ends : NoAttr K C_Service "_ends"
  na_Service__pairs : NoAttr K C_Service "_pairs"
  mk_Service : Mk K C_Service a_Machine___init__
  me_Service___getitem__ : Meth K C_Service "__getitem__" a_Machine___getitem__
  me_Service___bool__ : Meth K C_Service "__bool__" a_Machine___bool__
  me_Service_ends_at : Meth K C_Service "ends_at" a_Machine_ends_at
  is_Service_Machine : PySem.W.kitOne K (.ref C_Service) (.ref C_Machine) = some true
  cl_Pattern : Cls K C_Pattern
  na_Pattern_size : NoAttr K C_Pattern "size"
  na_Pattern_marks : NoAttr K C_Pattern "marks"
  na_Pattern_steps : NoAttr K C_Pattern "steps"
  na_Pattern_now : NoAttr K C_Pattern "now"
  na_Pattern__ends : NoAttr K C_Pattern "_ends"
  na_Pattern__pairs : NoAttr K C_Pattern "_pairs"
  mk_Pattern : Mk K C_Pattern a_Machine___init__
  me_Pattern___getitem__ : Meth K C_Pattern "__getitem__" a_Machine___getitem__
  me_Pattern___bool__ : Meth K C_Pattern "__bool__" a_Machine___bool__
  me_Pattern_ends_at : Meth K C_Pattern "ends_at" a_Machine_ends_at
  me_Pattern_pairs_at : Meth K C_Pattern "pairs_at" a_Machine_pairs_at
  me_Pattern___le__ : Meth K C_Pattern "__le__" a_Pattern___le__
  is_Pattern_Machine : PySem.W.kitOne K (.ref C_Pattern) (.ref C_Machine) = some true
  is_Pattern_Pattern : PySem.W.kitOne K (.ref C_Pattern) (.ref C_Pattern) = some true
  cl_PatternDuel : Cls K C_PatternDuel
  na_PatternDuel_first : NoAttr K C_PatternDuel "first"
  na_PatternDuel_second : NoAttr K C_PatternDuel "second"
  mk_PatternDuel : Mk K C_PatternDuel a_PatternDuel___init__
  me_PatternDuel_tasks_at : Meth K C_PatternDuel "tasks_at" a_PatternDuel_tasks_at
  b_Machine___init__ : Binds K d_Machine___init__ ["self", "size", "marks", "steps", "now"] []
  fn_gi : PySem.W.fnIn K a_Machine___getitem__ = true
  fn_le : PySem.W.isFn K (.ref a_Pattern___le__) = true
  nf_Pattern : PySem.W.notFirst K C_Pattern (.ref C_Pattern) = true
  cf_Service : MCls K C_Service
  cc_Service : OCls K C_Service
  gi_Service : Meth K C_Service "__getitem__" a_Machine___getitem__
  bo_Service : Meth K C_Service "__bool__" a_Machine___bool__
  ea_Service : Meth K C_Service "ends_at" a_Machine_ends_at
  nq_Service : PySem.W.noSeq K C_Service = true
  is_Service : PySem.W.kitOne K (.ref C_Service) (.ref C_Machine) = some true
  cf_Pattern : MCls K C_Pattern
  cc_Pattern : OCls K C_Pattern
  gi_Pattern : Meth K C_Pattern "__getitem__" a_Machine___getitem__
  bo_Pattern : Meth K C_Pattern "__bool__" a_Machine___bool__
  ea_Pattern : Meth K C_Pattern "ends_at" a_Machine_ends_at
  nq_Pattern : PySem.W.noSeq K C_Pattern = true
  is_Pattern : PySem.W.kitOne K (.ref C_Pattern) (.ref C_Machine) = some true
end K12

set_option Elab.async false
set_option linter.all false
set_option maxRecDepth 100000
namespace K12
open PySem PySem.Spec PyProof.Rows L2 Evl AE
local macro_rules | `(tactic| walk_at "c") => `(tactic| first | exact ⟨by decide, by decide⟩ | exact .inr ⟨by decide, by decide⟩ | exact .inl ⟨by decide, by decide⟩ | exact ⟨by decide, by decide, by decide⟩ | (show (0 : Int) < _; decide))
local macro_rules | `(tactic| walk_at "s") => `(tactic| first
  | (with_reducible refine r_var rfl ?_) | (with_reducible refine r_c ?_) | (with_reducible refine r_op ?_) | (with_reducible refine r_un ?_) | (with_reducible refine r_I0 ?_) | (with_reducible refine r_U ?_)
  | (with_reducible refine r_eq rfl ?_) | (with_reducible refine r_ne rfl ?_) | (with_reducible refine r_chain ?_) | (with_reducible refine r_test ?_) | (with_reducible refine r_tB ?_)
  | (with_reducible refine r_bl ?_) | (with_reducible refine r_and ?_) | (with_reducible refine r_or ?_) | (with_reducible refine r_not ?_) | (with_reducible refine r_nil ?_) | (with_reducible refine r_cons ?_)
  | (with_reducible refine r_tup ?_) | (with_reducible refine r_lst ?_) | (with_reducible refine r_cb ?_) | (with_reducible refine r_call ?_) | (with_reducible refine r_seq ?_) | (with_reducible refine r_set ?_)
  | (with_reducible refine r_drop ?_) | (with_reducible refine r_ret ?_) | (with_reducible refine r_next ?_) | (with_reducible refine r_if ?_) | (with_reducible refine r_sl ?_) | (with_reducible refine r_nop ?_) | (with_reducible refine r_prt ?_) | (with_reducible refine r_some ?_)
  | (with_reducible refine add_int ?_) | (with_reducible refine int_i ?_) | (with_reducible refine r_forR1 ?_) | (with_reducible refine r_forL ?_) | (with_reducible refine r_andV ?_) | (with_reducible refine r_orV ?_) | (with_reducible refine r_notV ?_) | (with_reducible refine r_ifE ?_) | ((with_reducible refine r_I ?_ ?_); (walk_at "c")))
local macro_rules | `(tactic| walk_at "g") => `(tactic| repeat walk_at "s")
section
variable {P : Program} {w : World} {K : PySem.W.Frag} {mg : Str → Option Value} {base : Heap}
/-! ### what a machine's parts are held against -/
def sp_size : Sp := fun vs H Q _ => ∃ n : Int, vs = [.int n] ∧ 1 ≤ n ∧ n ≤ 200 ∧ Q .non H
theorem ok_size (T : Tp K mg) : FnOk P w K mg base CX0 1 T.a_check_size T.d_check_size ["size"] sp_size := by
  refine T.f_check_size.ok sc_check_size (fun vs H Q E h => ?_) (fun cdv A outer s H vs Q E hr h => ?_)
  · obtain ⟨n, rfl, _⟩ := h
    rfl
  · obtain ⟨n, rfl, h1, h2, q⟩ := h
    refine ⟨_, (pss_cons (ps_if (pt_cmpR op_lt (pv 0) pe_int (nomark _)) (pss_one ps_never) pss_nil)
  (pss_one (ps_if (pt_cmpR op_gt (pv 0) (pe_gi rfl T.k_MOST_STATES) (nomark _)) (pss_one ps_never) pss_nil))), ?_⟩
    walk_at "g"
    refine ite_f (decide_eq_false (by omega)) ?_
    walk_at "g"
    refine ite_f (decide_eq_false (by omega)) ?_
    walk_at "g"
    exact q
def sp_marks (K : PySem.W.Frag) : Sp := fun vs H Q _ => ∃ (n : Int) (a : Addr) (ms : List Int), vs = [.int n, .ref a] ∧ SqA K H a (ms.map V.int) ∧ (∀ m ∈ ms, 0 ≤ m ∧ m < n) ∧ Q .non H
theorem ok_marks (T : Tp K mg) : FnOk P w K mg base CX0 1 T.a_check_marks T.d_check_marks ["size", "marks"] (sp_marks K) := by
  refine T.f_check_marks.ok sc_check_marks (fun vs H Q E h => ?_) (fun cdv A outer s H vs Q E hr h => ?_)
  · obtain ⟨n, a, ms, rfl, _⟩ := h
    rfl
  · obtain ⟨n, a, ms, rfl, hS, hm, q⟩ := h
    refine ⟨_, (pss_one (ps_for PassesOwn.never rfl (pi_seq (pv 1)) (pg_name (i := 2) sc_check_marks.nd rfl (.inl rfl))
  (pss_one (ps_if (pt_not (pt_chain op_le op_lt pe_int (pv 2) (pv 0))) (pss_one ps_never) pss_nil)))), ?_⟩
    refine for_seq rfl hS (fun i σ' H' => ∃ y, σ' = [some (.int n), some (.ref a), y] ∧ H' = H) ⟨_, rfl, rfl⟩ (fun j σ' H' _ ⟨_, _, e⟩ => by rw [e]; exact Ex.refl H) ?_ ?_
    · rintro j x σ' H' hx ⟨y, rfl, rfl⟩
      obtain ⟨m, hm1, rfl⟩ := List.mem_map.mp (List.mem_of_getElem? hx)
      obtain ⟨m0, m1⟩ := hm m hm1
      show tIfS _ _ _ _ _ _
      walk_at "g"
      refine ite_t (decide_eq_true (by omega)) ?_
      walk_at "g"
      refine ite_f (by rw [decide_eq_true m1]; rfl) ?_
      walk_at "g"
      exact ⟨_, rfl, rfl⟩
    · rintro σ' H' ⟨y, rfl, rfl⟩
      exact q
def sp_ask : Sp := fun vs H Q _ => ∃ x : Str, vs = [.str x] ∧ 1 ≤ x.length ∧ x.length ≤ 8 ∧ (∀ c ∈ x.cps.toList, 97 ≤ c ∧ c ≤ 122) ∧ ∀ H', Ex H H' → Q (.bl true) H'
theorem ok_ask (T : Tp K mg) : FnOk P w K mg base CX0 1 T.a_is_ask T.d_is_ask ["ask"] sp_ask := by
  refine T.f_is_ask.ok sc_is_ask (fun vs H Q E h => ?_) (fun cdv A outer s H vs Q E hr h => ?_)
  · obtain ⟨x, rfl, _⟩ := h
    rfl
  · obtain ⟨x, rfl, h1, h2, hl, q⟩ := h
    refine ⟨_, (pss_one (ps_ret (pe_and (pe_chain op_le op_le pe_int (pe_callB c_len (by rfl) T.n_len (by rfl) (pa_cons (pv 0) pa_nil)) (pe_gi rfl T.k_LONGEST_ASK)) (pe_one (pe_callB (cr_all rfl) (by rfl) T.n_all (by rfl) (pa_cons (pe_lc (own := [("letter", 1)]) (g := gName 1) (tt := tYes) rfl sc_is_ask.nd (pi_str (pv 0)) (blkOk_by (N := N_is_ask) (sc := defScope s_is_ask) (by decide +kernel)) (fun _ _ _ _ _ => (pg_name (i := 1) sc_is_ask.nd rfl (.inl rfl))) (fun _ _ _ _ _ => pts_nil) (fun _ _ _ _ _ => (pe_chain op_le_str op_le_str pe_str (pv 1) pe_str))) pa_nil)))))), ?_⟩
    walk_at "g"
    refine len_s (sz_of (by omega)) ?_
    walk_at "g"
    refine ite_t (decide_eq_true (by omega)) ?_
    walk_at "g"
    refine ite_t (decide_eq_true (by omega)) ?_
    walk_at "g"
    refine lc_s (z := x) (fun _ => true) (fun _ => .bl true) (fun R k => ⟨_, rfl, k⟩) (by omega) (fun _ => rfl) yes_t ?_ fun D H1 hD e1 hl1 => ?_
    · intro y hy _ H1 e1 R k
      obtain ⟨c, hc, rfl⟩ := List.mem_map.mp hy
      obtain ⟨c1, c2⟩ := hl c hc
      walk_at "g"
      refine ⟨_, _, rfl, rfl, _, rfl, ?_⟩
      refine ite_t ?_ ?_
      · show (!decide ([c] < [97])) = true
        rw [decide_eq_false (by rw [List.cons_lt_cons_iff]; simp; omega)]
        rfl
      · walk_at "g"
        refine ⟨_, _, rfl, rfl, ?_⟩
        have z : (!decide ([122] < [c])) = true := by
          rw [decide_eq_false (by rw [List.cons_lt_cons_iff]; simp; omega)]
          rfl
        have k2 := k H1 (Ex.refl H1)
        rw [← z] at k2
        exact k2
    · walk_at "g"
      refine ⟨D, ((signsV x).filter fun _ => true).map fun _ => true, rfl, .inl (.inl ?_), ?_⟩
      · rw [hl1, List.map_map]
        rfl
      · have z : (((signsV x).filter fun _ => true).map fun _ => true).all id = true := by simp
        rw [z]
        exact q H1 e1
def sp_steps (K : PySem.W.Frag) : Sp := fun vs H Q _ => ∃ (n : Int) (a : Addr) (us : List V) (ss : List StepD), vs = [.int n, .ref a] ∧ SqA K H a us ∧ Tups H us (ss.map stepV) ∧ (∀ s ∈ ss, OkS n s) ∧ ∀ H', Ex H H' → Q .non H'
theorem ok_steps (T : Tp K mg) : FnOk P w K mg base CX0 2 T.a_check_steps T.d_check_steps ["size", "steps"] (sp_steps K) := by
  have G_is_ask : FnOk P w K mg base CX0 1 T.a_is_ask T.d_is_ask ["ask"] sp_ask := ok_ask T
  refine T.f_check_steps.ok sc_check_steps (fun vs H Q E h => ?_) (fun cdv A outer s H vs Q E hr h => ?_)
  · obtain ⟨n, a, us, ss, rfl, _⟩ := h
    rfl
  · obtain ⟨n, a, us, ss, rfl, hS, hT, hok, q⟩ := h
    refine ⟨_, (pss_one (ps_for PassesOwn.never rfl (pi_seq (pv 1)) (pg_tup rfl (pgs_cons (pg_name (i := 2) sc_check_steps.nd rfl (.inl rfl)) (pgs_cons (pg_name (i := 3) sc_check_steps.nd rfl (.inl rfl)) (pgs_cons (pg_name (i := 4) sc_check_steps.nd rfl (.inl rfl)) pgs_nil))))
  (pss_one (ps_if (pt_not (PW.pt (pw_and (pt_chain op_le op_lt pe_int (pv 2) (pv 0)) (pw_and (pt_val (pe_call G_is_ask (hr.mono (by decide)) (by rfl) T.g_is_ask T.f_is_ask.kp T.b_is_ask .nil pass0 (pa_cons (pv 3) pa_nil))) (pw_and1 (pt_chain op_le op_lt pe_int (pv 4) (pv 0))))))) (pss_one ps_never) pss_nil)))), ?_⟩
    refine for_seq rfl hS (fun i σ' H' => ∃ y2 y3 y4, σ' = [some (.int n), some (.ref a), y2, y3, y4] ∧ Ex H H') ⟨_, _, _, rfl, Ex.refl H⟩ (fun j σ' H' _ ⟨_, _, _, _, e⟩ => e) ?_ ?_
    · rintro j x σ' H' hx ⟨y2, y3, y4, rfl, e1⟩
      obtain ⟨z, hz, p, rfl, hp⟩ := hT.get hx
      obtain ⟨st, hst, rfl⟩ := List.mem_map.mp (List.mem_of_getElem? hz)
      have o := hok st hst
      refine ⟨p, stepV st, rfl, .inl (.inl (e1 _ _ hp)), rfl, _, _, rfl, _, _, rfl, _, _, rfl, rfl, ?_⟩
      show tIfS _ _ _ _ _ _
      walk_at "g"
      refine ite_t (decide_eq_true o.s0) ?_
      walk_at "g"
      refine ite_t (decide_eq_true o.s1) ?_
      walk_at "g"
      refine ⟨_, rfl, o.a0, o.a1, o.al, fun H2 e2 => ?_⟩
      walk_at "g"
      refine ite_t rfl ?_
      walk_at "g"
      refine ite_t (decide_eq_true o.e0) ?_
      walk_at "g"
      refine ite_f (by rw [decide_eq_true o.e1]; rfl) ?_
      walk_at "g"
      exact ⟨_, _, _, rfl, e1.trans e2⟩
    · rintro σ' H' ⟨y2, y3, y4, rfl, e1⟩
      exact q H' e1
end
end K12

set_option Elab.async false
set_option linter.all false
set_option maxRecDepth 100000
namespace K12
open PySem PySem.Spec PyProof.Rows L2 Evl AE
local macro_rules | `(tactic| walk_at "c") => `(tactic| first | exact ⟨by decide, by decide⟩ | exact .inr ⟨by decide, by decide⟩ | exact .inl ⟨by decide, by decide⟩ | exact ⟨by decide, by decide, by decide⟩ | (show (0 : Int) < _; decide))
local macro_rules | `(tactic| walk_at "s") => `(tactic| first
  | (with_reducible refine r_var rfl ?_) | (with_reducible refine r_c ?_) | (with_reducible refine r_op ?_) | (with_reducible refine r_un ?_) | (with_reducible refine r_I0 ?_) | (with_reducible refine r_U ?_)
  | (with_reducible refine r_eq rfl ?_) | (with_reducible refine r_ne rfl ?_) | (with_reducible refine r_chain ?_) | (with_reducible refine r_test ?_) | (with_reducible refine r_tB ?_)
  | (with_reducible refine r_bl ?_) | (with_reducible refine r_and ?_) | (with_reducible refine r_or ?_) | (with_reducible refine r_not ?_) | (with_reducible refine r_nil ?_) | (with_reducible refine r_cons ?_)
  | (with_reducible refine r_tup ?_) | (with_reducible refine r_lst ?_) | (with_reducible refine r_cb ?_) | (with_reducible refine r_call ?_) | (with_reducible refine r_seq ?_) | (with_reducible refine r_set ?_)
  | (with_reducible refine r_drop ?_) | (with_reducible refine r_ret ?_) | (with_reducible refine r_next ?_) | (with_reducible refine r_if ?_) | (with_reducible refine r_sl ?_) | (with_reducible refine r_nop ?_) | (with_reducible refine r_prt ?_) | (with_reducible refine r_some ?_)
  | (with_reducible refine add_int ?_) | (with_reducible refine int_i ?_) | (with_reducible refine r_forR1 ?_) | (with_reducible refine r_forL ?_) | (with_reducible refine r_andV ?_) | (with_reducible refine r_orV ?_) | (with_reducible refine r_notV ?_) | (with_reducible refine r_ifE ?_) | (with_reducible refine r_lcL ?_) | ((with_reducible refine r_I ?_ ?_); (walk_at "c")))
local macro_rules | `(tactic| walk_at "g") => `(tactic| repeat walk_at "s")
section
variable {P : Program} {w : World} {K : PySem.W.Frag} {mg : Str → Option Value} {base : Heap}
/-! ### the steps in order -/
/-- the names' dict: each name has a step of the row -/
structure Named (H : Hp) (kvs : List (Key × V)) (ss : List StepD) : Prop where
  nd : (kvs.map (·.1)).Nodup
  len : kvs.length ≤ ss.length
  val : ∀ k v, valV kvs k = some v → ∃ s ∈ ss, k = .inr (keyS s) ∧ TupAt H v (stepV s)
  has : ∀ s ∈ ss, Sum.inr (keyS s) ∈ kvs.map (·.1)
theorem Named.nil (H : Hp) : Named H [] [] := ⟨List.nodup_nil, Nat.le_refl _, fun _ _ h => (by cases h), fun _ h => (by cases h)⟩
theorem Named.put {H H' : Hp} {kvs : List (Key × V)} {ss : List StepD} {s : StepD} {v : V} (N : Named H kvs ss) (e : Tx H H') (hv : TupAt H' v (stepV s)) : Named H' (putK kvs (.inr (keyS s)) v) (ss ++ [s]) := by
  refine ⟨nd_put _ _ N.nd, ?_, fun k x h => ?_, fun z hz => ?_⟩
  · rw [List.length_append]
    exact Nat.le_trans (len_put _ _ _) (Nat.succ_le_succ N.len)
  · rw [valV_put] at h
    by_cases hk : k = .inr (keyS s)
    · rw [if_pos hk] at h
      cases h
      exact ⟨s, List.mem_append_right _ (List.mem_singleton.mpr rfl), hk, hv⟩
    · rw [if_neg hk] at h
      obtain ⟨z, hz, ez, tz⟩ := N.val k x h
      exact ⟨z, List.mem_append_left _ hz, ez, tz.tx e⟩
  · rw [keys_put]
    rcases List.mem_append.mp hz with hz | hz
    · split
      · exact N.has z hz
      · exact List.mem_append_left _ (N.has z hz)
    · cases List.mem_singleton.mp hz
      split
      · assumption
      · exact List.mem_append_right _ (List.mem_singleton.mpr rfl)
def unS : V → Str
  | .str y => y
  | _ => Str.empty
/-- what the sorted names lead to -/
theorem rows_of {H : Hp} {kvs : List (Key × V)} {ss : List StepD} {n : Int} (hn : n ≤ 200) (N : Named H kvs ss) (ok : ∀ s ∈ ss, OkS n s) {ys : List Str} (hp : ys.Perm (kvs.map fun kv => unS (kV kv.1))) (hs : sortedS ys = true) :
    ∃ rows : List StepD, rows.Pairwise ltS ∧ (∀ s, s ∈ rows ↔ s ∈ ss) ∧ rows.length ≤ ss.length ∧ ys = rows.map keyS ∧ Tups H (ys.map fun y => (valV kvs (.inr y)).getD .non) (rows.map stepV) := by
  have ks : ∀ k ∈ kvs.map (·.1), ∃ s ∈ ss, k = .inr (keyS s) := fun k hk => by
    obtain ⟨v, hv⟩ := Option.isSome_iff_exists.mp (val_some.mpr hk)
    obtain ⟨s, hs, e, _⟩ := N.val k v hv
    exact ⟨s, hs, e⟩
  have my : ∀ y, y ∈ ys ↔ Sum.inr y ∈ kvs.map (·.1) := fun y => by
    rw [hp.mem_iff, List.mem_map]
    constructor
    · rintro ⟨p, hp, rfl⟩
      obtain ⟨s, _, e⟩ := ks p.1 (List.mem_map.mpr ⟨p, hp, rfl⟩)
      have : Sum.inr (unS (kV p.1)) = p.1 := by rw [e]; rfl
      rw [this]
      exact List.mem_map.mpr ⟨p, hp, rfl⟩
    · intro h
      obtain ⟨p, hp, e⟩ := List.mem_map.mp h
      exact ⟨p, hp, by rw [e]; rfl⟩
  have nd : ys.Nodup := by
    refine (hp.nodup_iff).mpr ?_
    have : (kvs.map fun kv => unS (kV kv.1)) = (kvs.map (·.1)).map fun k => unS (kV k) := by rw [List.map_map]; rfl
    rw [this]
    show List.Pairwise (fun a b => a ≠ b) _
    rw [List.pairwise_map]
    refine List.Pairwise.imp_of_mem (fun {a b} ha hb hne h => hne ?_) N.nd
    obtain ⟨s, _, rfl⟩ := ks a ha
    obtain ⟨s2, _, rfl⟩ := ks b hb
    have h' : keyS s = keyS s2 := h
    rw [h']
  have pw := sorted_pw hs
  have all : ∀ y ∈ ys, ∃ s, s ∈ ss ∧ y = keyS s ∧ TupAt H ((valV kvs (.inr y)).getD .non) (stepV s) := fun y hy => by
    obtain ⟨v, hv⟩ := Option.isSome_iff_exists.mp (val_some.mpr ((my y).mp hy))
    obtain ⟨s, hs, e, tt⟩ := N.val _ v hv
    refine ⟨s, hs, Sum.inr.inj e, ?_⟩
    rw [hv]
    exact tt
  have main : ∀ zs : List Str, zs.Nodup → zs.Pairwise (fun a b => ¬ b.cps.toList < a.cps.toList) → (∀ y ∈ zs, ∃ s, s ∈ ss ∧ y = keyS s ∧ TupAt H ((valV kvs (.inr y)).getD .non) (stepV s)) →
      ∃ rows : List StepD, rows.Pairwise ltS ∧ (∀ s ∈ rows, s ∈ ss ∧ keyS s ∈ zs) ∧ zs = rows.map keyS ∧ Tups H (zs.map fun y => (valV kvs (.inr y)).getD .non) (rows.map stepV) := by
    intro zs
    induction zs with
    | nil => exact fun _ _ _ => ⟨[], .nil, fun _ h => (by cases h), rfl, .nil⟩
    | cons y zs ih =>
      intro nd pw al
      obtain ⟨rows, r1, r2, r3, r4⟩ := ih (List.nodup_cons.mp nd).2 (List.pairwise_cons.mp pw).2 fun z hz => al z (List.mem_cons_of_mem _ hz)
      obtain ⟨s, hs, rfl, tt⟩ := al _ (List.mem_cons_self ..)
      refine ⟨s :: rows, ?_, fun z hz => ?_, by rw [List.map_cons, r3], .cons tt r4⟩
      · rw [List.pairwise_cons]
        refine ⟨fun z hz => ?_, r1⟩
        obtain ⟨z1, z2⟩ := r2 z hz
        rcases ltS_tri s z with h | h | h
        · exact h
        · subst h
          exact absurd z2 (List.nodup_cons.mp nd).1
        · exact absurd (key_lt hn (ok z z1) (ok s hs) h) ((List.pairwise_cons.mp pw).1 _ z2)
      · rcases List.mem_cons.mp hz with rfl | hz
        · exact ⟨hs, List.mem_cons_self ..⟩
        · exact ⟨(r2 z hz).1, List.mem_cons_of_mem _ (r2 z hz).2⟩
  obtain ⟨rows, r1, r2, r3, r4⟩ := main ys nd pw all
  refine ⟨rows, r1, fun s => ⟨fun h => (r2 s h).1, fun h => ?_⟩, ?_, r3, r4⟩
  · have : keyS s ∈ ys := (my _).mpr (N.has s h)
    rw [r3] at this
    obtain ⟨z, hz, e⟩ := List.mem_map.mp this
    have := key_inj hn (ok z (r2 z hz).1) (ok s h) e
    rw [← this]
    exact hz
  · have e1 : rows.length = ys.length := by rw [r3, List.length_map]
    rw [e1, hp.length_eq, List.length_map]
    exact N.len
def sp_asc (K : PySem.W.Frag) : Sp := fun vs H Q _ => ∃ (n : Int) (a : Addr) (us : List V) (ss : List StepD), vs = [.ref a] ∧ SqA K H a us ∧ Tups H us (ss.map stepV) ∧ n ≤ 200 ∧ (∀ s ∈ ss, OkS n s) ∧ ss.length ≤ 1000 ∧
  ∀ (rows : List StepD) (ws : List V) (p : Addr) H', rows.Pairwise ltS → (∀ s, s ∈ rows ↔ s ∈ ss) → rows.length ≤ ss.length → H p = none → Ex H H' → H' p = some (.tup ws) → Tups H' ws (rows.map stepV) → Q (.ref p) H'
theorem ok_asc (T : Tp K mg) : FnOk P w K mg base CX0 1 T.a_ascending T.d_ascending ["steps"] (sp_asc K) := by
  refine T.f_ascending.ok sc_ascending (fun vs H Q E h => ?_) (fun cdv A outer s H vs Q E hr h => ?_)
  · obtain ⟨n, a, us, ss, rfl, _⟩ := h
    rfl
  · obtain ⟨n, a, us, ss, rfl, hS, hT, hn, hok, hl, q⟩ := h
    have hu := hu_of hr
    refine ⟨_, (pss_cons (ps_set (i := 1) sc_ascending.nd rfl (.inr rfl) (pe_dc (own := [("state", 2), ("ask", 3), ("end", 4)]) (g := gTup K 3 (gCons (gName 2) (gCons (gName 3) (gCons (gName 4) gNil)))) (tt := tYes) rfl sc_ascending.nd (pi_seq (pv 0)) (blkOk_by (N := N_ascending) (sc := defScope s_ascending) (by decide +kernel)) (fun _ _ _ _ _ => (pg_tup (by rfl) (pgs_cons (pg_name (i := 2) sc_ascending.nd rfl (.inl rfl)) (pgs_cons (pg_name (i := 3) sc_ascending.nd rfl (.inl rfl)) (pgs_cons (pg_name (i := 4) sc_ascending.nd rfl (.inl rfl)) pgs_nil))))) (fun _ _ _ _ _ => pts_nil) (fun _ _ _ _ _ => (pe_joined (PJ.cons (pe_fmtS_03d (pv 2)) (PJ.cons (pe_fmtS_l8 (pv 3)) (PJ.cons (pe_fmtS_03d (pv 4)) PJ.nil))))) (fun _ _ _ _ _ => (pe_tup (pa_cons (pv 2) (pa_cons (pv 3) (pa_cons (pv 4) pa_nil)))))))
  (pss_one (ps_ret (pe_callTy c_tuple (by rfl) T.n_tuple (by rfl) (pa_cons (pe_lc (own := [("name", 5)]) (g := gName 5) (tt := tYes) rfl sc_ascending.nd (pi_list (pe_callB c_sorted (by rfl) T.n_sorted (by rfl) (pa_cons (pe_lock (pe_lc (own := [("name", 5)]) (g := gName 5) (tt := tYes) rfl sc_ascending.nd (pi_keys (pv 1)) (blkOk_by (N := N_ascending) (sc := defScope s_ascending) (by decide +kernel)) (fun _ _ _ _ _ => (pg_name (i := 5) sc_ascending.nd rfl (.inl rfl))) (fun _ _ _ _ _ => pts_nil) (fun _ _ _ _ _ => (pe_callTy c_str (by rfl) T.n_str (by rfl) (pa_cons (pv 5) pa_nil))))) pa_nil))) (blkOk_by (N := N_ascending) (sc := defScope s_ascending) (by decide +kernel)) (fun _ _ _ _ _ => (pg_name (i := 5) sc_ascending.nd rfl (.inl rfl))) (fun _ _ _ _ _ => pts_nil) (fun _ _ _ _ _ => (pe_dget hu (pv 1) (pv 5) (fun _ _ => rfl)))) pa_nil))))), ?_⟩
    walk_at "g"
    have p3l : ∀ i, (p3 i).length = 3 := fun _ => rfl
    have sl : (sizeLine : Nat) = 16777216 := sizeLine_eq
    refine dc_seq rfl hS (fun D j H' => Ex H H' ∧ H D = none ∧ ∃ kvs, H' D = some (.dK kvs) ∧ Named H' kvs (ss.take j)) (fun D hD => ⟨Ex.new hD, hD, [], upd_same, Named.nil _⟩) (fun D j H' p => p.1) ?_ ?_
    · rintro D j x H' hx ⟨e1, hD, kvs, hk, N⟩
      obtain ⟨z, hz, b, rfl, hb⟩ := hT.get hx
      rw [List.getElem?_map] at hz
      obtain ⟨st, hst, rfl⟩ := Option.map_eq_some_iff.mp hz
      have o := hok st (List.mem_of_getElem? hst)
      have os1 := o.s1; have oe1 := o.e1; have oa1 := o.a1
      have pl : (pad8 st.2.1).length ≤ 8 := by
        show (st.2.1.cps ++ Array.replicate (8 - st.2.1.length) 32).size ≤ 8
        rw [Array.size_append, Array.size_replicate]
        have : st.2.1.cps.size = st.2.1.length := rfl
        omega
      refine ⟨b, stepV st, rfl, .inl (.inl (e1 _ _ hb)), rfl, _, _, rfl, _, _, rfl, _, _, rfl, rfl, rfl, ?_⟩
      refine yes_q (ite_t rfl ?_)
      refine ⟨_, rfl, _, rfl, o.s0, by omega, _, rfl, ?_, _, rfl, _, rfl, oa1, _, rfl, ?_, _, rfl, _, rfl, o.e0, by omega, _, rfl, ?_, ?_⟩
      · rw [Str.length_append]
        show 0 + 3 ≤ sizeLine
        omega
      · rw [Str.length_append, Str.length_append]
        show 0 + 3 + (pad8 st.2.1).length ≤ sizeLine
        omega
      · rw [Str.length_append, Str.length_append, Str.length_append]
        show 0 + 3 + (pad8 st.2.1).length + 3 ≤ sizeLine
        omega
      · refine js_nil ?_
        walk_at "g"
        refine ⟨by show 3 ≤ sizeLine; omega, fun p hp => ?_⟩
        have hpD : D ≠ p := ne_of_none hk hp
        have hk2 : (upd H' p (.tup (stepV st))) D = some (.dK kvs) := by rw [upd_ne hpD]; exact hk
        have tv : TupAt (upd (upd H' p (.tup (stepV st))) D (.dK (putK kvs (.inr (keyS st)) (.ref p)))) (.ref p) (stepV st) := ⟨p, rfl, by rw [upd_ne hpD.symm, upd_same]⟩
        refine ⟨kvs, .inr (keyS st), rfl, hk2, ?_, ex_upd (e1.trans (Ex.new hp)) hD, hD, _, upd_same, ?_⟩
        · have := N.len
          rw [List.length_take] at this
          omega
        · have tk : ss.take (j + 1) = ss.take j ++ [st] := by
            rw [List.take_add_one, hst]
            rfl
          rw [tk]
          exact N.put ((tx_ex (Ex.new hp)).trans (tx_dk hk2)) tv
    · rintro D H' ⟨e1, hD, kvs, hk, N⟩
      have lu : us.length = ss.length := by rw [hT.len, List.length_map]
      rw [lu, List.take_length] at N
      have kl := N.len
      walk_at "g"
      refine lc_k (kvs := kvs) (fun x => x) (fun H1 R k => ⟨_, rfl, k⟩) hk (by omega) (fun _ => rfl) ?_ fun L1 H1 hL1 e2 hl1 => ?_
      · intro x hx H2 R k
        obtain ⟨kv, hkv, rfl⟩ := List.mem_map.mp hx
        obtain ⟨s0, _, e0⟩ : ∃ s ∈ ss, kv.1 = .inr (keyS s) := by
          obtain ⟨v, hv⟩ := Option.isSome_iff_exists.mp (val_some.mpr (List.mem_map.mpr ⟨kv, hkv, rfl⟩))
          obtain ⟨s, hs, e, _⟩ := N.val _ v hv
          exact ⟨s, hs, e⟩
        rw [e0] at k ⊢
        walk_at "g"
        exact ⟨_, rfl, k⟩
      · walk_at "g"
        have kstr : (kvs.map fun kv => kV kv.1).map (fun x => x) = (kvs.map fun kv => unS (kV kv.1)).map V.str := by
          rw [List.map_map, List.map_map]
          refine List.map_congr_left fun kv hkv => ?_
          obtain ⟨v, hv⟩ := Option.isSome_iff_exists.mp (val_some.mpr (List.mem_map.mpr ⟨kv, hkv, rfl⟩))
          obtain ⟨s, hs, e, _⟩ := N.val _ v hv
          show kV kv.1 = V.str (unS (kV kv.1))
          rw [e]
          rfl
        rw [kstr] at hl1
        refine ⟨L1, _, rfl, .inl (.inl hl1), by rw [List.length_map]; omega, fun ys L2 hp hs hL2 => ?_⟩
        obtain ⟨rows, r1, r2, r3, r4, r5⟩ := rows_of hn N hok hp hs
        have e3 := e2.trans (Ex.new (o := .lst (ys.map V.str)) hL2)
        have yl : ys.length = rows.length := by rw [r4, List.length_map]
        refine lcl_go (fun _ => true) (fun x => (valV kvs (.inr (unS x))).getD .non) (.inl (.inl upd_same)) (by rw [List.length_map]; omega) (fun _ => rfl) yes_t ?_ fun L3 H3 hL3 e4 hl3 => ?_
        · intro x hx _ H2 e4 R k
          obtain ⟨y, hy, rfl⟩ := List.mem_map.mp hx
          rw [r4] at hy
          obtain ⟨s, hs, rfl⟩ := List.mem_map.mp hy
          obtain ⟨v, hv⟩ := Option.isSome_iff_exists.mp (val_some.mpr (N.has s ((r2 s).mp hs)))
          have g : DGet H2 D (.str (keyS s)) (some v) := by
            have g := DGet.k (k := Sum.inr (keyS s)) (e4 _ _ (e3 _ _ hk))
            rw [hv] at g
            exact g
          have k2 := k H2 (Ex.refl H2)
          have ev : (valV kvs (.inr (unS (.str (keyS s))))).getD .non = v := by
            show (valV kvs (.inr (keyS s))).getD .non = v
            rw [hv]
            rfl
          rw [ev] at k2
          exact ⟨_, rfl, _, rfl, D, _, rfl, g, k2⟩
        · walk_at "g"
          refine ⟨L3, _, rfl, .inl ⟨.inl (.inl hl3), fun p hp => ?_⟩⟩
          rw [filter_yes, List.map_map]
          refine q rows _ p _ r1 r2 r3 (fresh_back (e1.trans (e3.trans e4)) hp) ((e1.trans (e3.trans e4)).trans (Ex.new hp)) upd_same ?_
          exact r5.tx (tx_ex ((e3.trans e4).trans (Ex.new hp)))
end
end K12

set_option Elab.async false
set_option linter.all false
set_option maxRecDepth 100000
namespace K12
open PySem PySem.Spec PyProof.Rows L2 Evl AE
local macro_rules | `(tactic| walk_at "c") => `(tactic| first | exact ⟨by decide, by decide⟩ | exact .inr ⟨by decide, by decide⟩ | exact .inl ⟨by decide, by decide⟩ | exact ⟨by decide, by decide, by decide⟩ | (show (0 : Int) < _; decide))
local macro_rules | `(tactic| walk_at "s") => `(tactic| first
  | (with_reducible refine r_var rfl ?_) | (with_reducible refine r_c ?_) | (with_reducible refine r_op ?_) | (with_reducible refine r_un ?_) | (with_reducible refine r_I0 ?_) | (with_reducible refine r_U ?_)
  | (with_reducible refine r_eq rfl ?_) | (with_reducible refine r_ne rfl ?_) | (with_reducible refine r_chain ?_) | (with_reducible refine r_test ?_) | (with_reducible refine r_tB ?_)
  | (with_reducible refine r_bl ?_) | (with_reducible refine r_and ?_) | (with_reducible refine r_or ?_) | (with_reducible refine r_not ?_) | (with_reducible refine r_nil ?_) | (with_reducible refine r_cons ?_)
  | (with_reducible refine r_tup ?_) | (with_reducible refine r_lst ?_) | (with_reducible refine r_cb ?_) | (with_reducible refine r_call ?_) | (with_reducible refine r_seq ?_) | (with_reducible refine r_set ?_)
  | (with_reducible refine r_drop ?_) | (with_reducible refine r_ret ?_) | (with_reducible refine r_next ?_) | (with_reducible refine r_if ?_) | (with_reducible refine r_sl ?_) | (with_reducible refine r_nop ?_) | (with_reducible refine r_prt ?_) | (with_reducible refine r_some ?_)
  | (with_reducible refine add_int ?_) | (with_reducible refine int_i ?_) | (with_reducible refine r_forR1 ?_) | (with_reducible refine r_forL ?_) | (with_reducible refine r_andV ?_) | (with_reducible refine r_orV ?_) | (with_reducible refine r_notV ?_) | (with_reducible refine r_ifE ?_) | (with_reducible refine r_lcL ?_) | (with_reducible refine r_fld ?_) | (with_reducible refine r_get ?_) | (with_reducible refine r_din ?_) | (with_reducible refine r_dget2 ?_) | ((with_reducible refine r_I ?_ ?_); (walk_at "c")))
local macro_rules | `(tactic| walk_at "g") => `(tactic| repeat walk_at "s")
section
variable {P : Program} {w : World} {K : PySem.W.Frag} {mg : Str → Option Value} {base : Heap}
def EndsAt (H : Hp) (d : Addr) (rows : List StepD) : Prop := ∃ kvs : List (List Key × V), H d = some (.dT kvs) ∧ GrpT H kvs (endsF rows)
def sp_ends (K : PySem.W.Frag) : Sp := fun vs H Q _ => ∃ (a : Addr) (us : List V) (rows : List StepD), vs = [.ref a] ∧ SqT K H a us ∧ Tups H us (rows.map stepV) ∧ rows.length ≤ 1000 ∧
  ∀ p H', H p = none → Ex H H' → EndsAt H' p rows → Q (.ref p) H'
theorem ok_ends (T : Tp K mg) : FnOk P w K mg base CX0 1 T.a_ends_by_ask T.d_ends_by_ask ["steps"] (sp_ends K) := by
  refine T.f_ends_by_ask.ok sc_ends_by_ask (fun vs H Q E h => ?_) (fun cdv A outer s H vs Q E hr h => ?_)
  · obtain ⟨a, us, rows, rfl, _⟩ := h
    rfl
  · obtain ⟨a, us, rows, rfl, hS, hT, hl, q⟩ := h
    have hu := hu_of hr
    refine ⟨_, (pss_cons (ps_set (i := 1) sc_ends_by_ask.nd rfl (.inr rfl) pe_dnewT)
  (pss_cons (ps_for PassesOwn.never rfl (pi_tup (pv 0)) (pg_tup (by rfl) (pgs_cons (pg_name (i := 2) sc_ends_by_ask.nd rfl (.inl rfl)) (pgs_cons (pg_name (i := 3) sc_ends_by_ask.nd rfl (.inl rfl)) (pgs_cons (pg_name (i := 4) sc_ends_by_ask.nd rfl (.inl rfl)) pgs_nil))))
  (pss_one (ps_expr (pe_bm PySem.F.plainAttrs_list PySem.F.slot_list_append PySem.F.type_list_append mt_append (pe_setdT hu (pv 1) (pe_tup (pa_cons (pv 2) (pa_cons (pv 3) pa_nil))) (pe_lst pa_nil) ⟨rfl, rfl, rfl, rfl⟩) (pa_cons (pv 4) pa_nil)))))
  (pss_one (ps_ret (pe_lock (pe_dcT (own := [("place", 5)]) (g := gName 5) (tt := tYes) (Nat.lt_of_succ_lt hu) rfl sc_ends_by_ask.nd (pi_keys (pv 1)) (blkOk_by (N := N_ends_by_ask) (sc := defScope s_ends_by_ask) (by decide +kernel)) (fun _ _ _ _ _ => (pg_name (i := 5) sc_ends_by_ask.nd rfl (.inl rfl))) (fun _ _ _ _ _ => pts_nil) (fun _ _ _ _ _ => (pv 5)) (fun _ _ _ _ _ => (pe_callTy (c_tupleK (K := K)) (by rfl) T.n_tuple (by rfl) (pa_cons (pe_dget hu (pv 1) (pv 5) (fun _ _ => rfl)) pa_nil))))))))), ?_⟩
    walk_at "g"
    intro d hd
    have e1 : Ex H (upd H d (.dT [])) := Ex.new hd
    have d1 : (upd H d (.dT [])) d = some (.dT []) := upd_same
    generalize (upd H d (.dT [])) = H1 at e1 d1
    walk_at "g"
    refine for_t rfl (ex_t e1 hS) (fun j σ' H' => ∃ y2 y3 y4 kvs, σ' = [some (.ref a), some (.ref d), y2, y3, y4, none] ∧ Ex H H' ∧ H' d = some (.dT kvs) ∧ kvs.length ≤ j ∧ Grp H H' kvs (endsF (rows.take j)))
      ⟨_, _, _, _, rfl, e1, d1, Nat.le_refl _, Grp.nil fun _ => rfl⟩ (fun j σ' H' _ ⟨_, _, _, _, _, e, _⟩ => ex_t e hS) ?_ ?_
    · rintro j x σ' H' hx ⟨y2, y3, y4, kvs, rfl, e2, d2, kl, g⟩
      obtain ⟨z, hz, p, rfl, hp⟩ := hT.get hx
      rw [List.getElem?_map] at hz
      obtain ⟨st, hst, rfl⟩ := Option.map_eq_some_iff.mp hz
      have hj : j < rows.length := (List.getElem?_eq_some_iff.mp hst).1
      have tk : rows.take (j + 1) = rows.take j ++ [st] := by
        rw [List.take_add_one, hst]
        rfl
      refine ⟨p, stepV st, rfl, .inl (.inl (e2 _ _ hp)), rfl, _, _, rfl, _, _, rfl, _, _, rfl, rfl, ?_⟩
      walk_at "g"
      refine ⟨_, rfl, d, rfl, .inr ⟨kvs, .inl d2⟩, ?_⟩
      walk_at "g"
      refine ⟨sz_of (by show 2 ≤ 100000; decide), fun kp hkp => ?_⟩
      walk_at "g"
      refine ⟨sz_of (by show 0 ≤ 100000; decide), fun lp hlp => ?_⟩
      have dk : d ≠ kp := ne_of_none d2 hkp
      have dl : d ≠ lp := ne_of_none (show (upd H' kp _) d = some _ by rw [upd_ne dk]; exact d2) hlp
      have kl' : kp ≠ lp := ne_of_none upd_same hlp
      have hlp' : H' lp = none := by rw [upd_ne kl'.symm] at hlp; exact hlp
      have e3 : Ex H' (upd (upd H' kp (.tup [.int st.1, .str st.2.1])) lp (.lst [])) := (Ex.new hkp).trans (Ex.new hlp)
      refine ⟨kvs, [.inl st.1, .inr st.2.1], kp, e3 _ _ d2, rfl, by rw [upd_ne kl', upd_same]; rfl, sz_lt (by omega), fun v hv => ?_, fun hn => ?_⟩
      · obtain ⟨l, rfl, h2, h3, h4⟩ := g.val _ _ hv
        have ld : l ≠ d := ne_of h2 d2 (by intro z; cases z)
        refine ⟨.inl ⟨rfl, _, .inl (.inl (e3 _ _ h2))⟩, ?_⟩
        walk_at "g"
        refine app_l (e3 _ _ h2) ?_ ?_
        · refine sz_lt ?_
          unfold endsF
          rw [List.length_map]
          have := List.length_filter_le (fun s : StepD => decide ([Sum.inl s.1, Sum.inr s.2.1] = ([.inl st.1, .inr st.2.1] : List Key))) (rows.take j)
          rw [List.length_take] at this
          omega
        · walk_at "g"
          refine ⟨_, _, _, kvs, rfl, ex_upd (e2.trans e3) h3, by rw [upd_ne ld.symm]; exact e3 _ _ d2, by omega, ?_⟩
          have gg := g.more (H' := upd (upd (upd H' kp (.tup [.int st.1, .str st.2.1])) lp (.lst [])) l (.lst (endsF (rows.take j) [.inl st.1, .inr st.2.1] ++ [.int st.2.2]))) hv (fun b xs hb h => by rw [upd_ne hb]; exact e3 _ _ h) upd_same
          have ee : endsF (rows.take (j + 1)) = fun k' => if k' = [.inl st.1, .inr st.2.1] then endsF (rows.take j) [.inl st.1, .inr st.2.1] ++ [.int st.2.2] else endsF (rows.take j) k' := by
            funext k'
            rw [tk, endsF_snoc]
          rw [ee]
          exact gg
      · have hl4 : (upd (upd (upd H' kp (.tup [.int st.1, .str st.2.1])) lp (.lst [])) d (.dT (putK kvs [.inl st.1, .inr st.2.1] (.ref lp)))) lp = some (.lst []) := by rw [upd_ne dl.symm, upd_same]
        refine ⟨.inl ⟨rfl, _, .inl (.inl hl4)⟩, ?_⟩
        walk_at "g"
        refine app_l hl4 (sz_lt (by decide)) ?_
        walk_at "g"
        have hlp0 : H lp = none := fresh_back e2 hlp'
        refine ⟨_, _, _, _, rfl, ex_upd (ex_upd (e2.trans e3) hd) hlp0, by rw [upd_ne dl, upd_same], Nat.le_trans (len_put _ _ _) (by omega), ?_⟩
        have ee : endsF (rows.take (j + 1)) = fun k' => if k' = [.inl st.1, .inr st.2.1] then endsF (rows.take j) [.inl st.1, .inr st.2.1] ++ [.int st.2.2] else endsF (rows.take j) k' := by
          funext k'
          rw [tk, endsF_snoc]
        rw [ee]
        refine g.new hn hlp' hlp0 (fun b xs hb h => ?_) upd_same
        rw [upd_ne hb, upd_ne (ne_of h d2 (by intro z; cases z))]
        exact e3 _ _ h
    · rintro σ' H' ⟨y2, y3, y4, kvs, rfl, e2, d2, kl, g⟩
      have lu : us.length = rows.length := by rw [hT.len, List.length_map]
      rw [lu, List.take_length] at g
      rw [lu] at kl
      walk_at "g"
      refine grp_tupT rfl (fun _ => rfl) (fun _ => rfl) (fun _ => rfl) d2 g (by omega) fun p H2 hp e3 k2 => ?_
      exact q p H2 (fresh_back e2 hp) (e2.trans e3) k2
/-- at each state: tuples of its pairs -/
def pairsF (rows : List StepD) (k : Key) : List StepD := rows.filter fun s => decide (Sum.inl s.1 = k)
def PairsAt (H : Hp) (d : Addr) (rows : List StepD) : Prop := ∃ (kvs : List (Key × V)) (G : Key → List V), H d = some (.dK kvs) ∧ GrpT H kvs G ∧ ∀ k, Tups H (G k) ((pairsF rows k).map pairD)
theorem pairsF_snoc (rows : List StepD) (s : StepD) (k : Key) : pairsF (rows ++ [s]) k = if k = .inl s.1 then pairsF rows (.inl s.1) ++ [s] else pairsF rows k := by
  unfold pairsF
  rw [List.filter_append]
  by_cases h : k = .inl s.1
  · rw [if_pos h, h, List.filter_cons, if_pos (decide_eq_true rfl)]
    rfl
  · rw [if_neg h, List.filter_cons, if_neg (by rw [decide_eq_false (fun q => h q.symm)]; decide)]
    simp
def sp_pairs (K : PySem.W.Frag) : Sp := fun vs H Q _ => ∃ (a : Addr) (us : List V) (rows : List StepD), vs = [.ref a] ∧ SqT K H a us ∧ Tups H us (rows.map stepV) ∧ rows.length ≤ 1000 ∧
  ∀ p H', H p = none → Ex H H' → PairsAt H' p rows → Q (.ref p) H'
theorem ok_pairs (T : Tp K mg) : FnOk P w K mg base CX0 1 T.a_pairs_by_state T.d_pairs_by_state ["steps"] (sp_pairs K) := by
  refine T.f_pairs_by_state.ok sc_pairs_by_state (fun vs H Q E h => ?_) (fun cdv A outer s H vs Q E hr h => ?_)
  · obtain ⟨a, us, rows, rfl, _⟩ := h
    rfl
  · obtain ⟨a, us, rows, rfl, hS, hT, hl, q⟩ := h
    have hu := hu_of hr
    refine ⟨_, (pss_cons (ps_set (i := 1) sc_pairs_by_state.nd rfl (.inr rfl) pe_dnewK)
  (pss_cons (ps_for PassesOwn.never rfl (pi_tup (pv 0)) (pg_tup (by rfl) (pgs_cons (pg_name (i := 2) sc_pairs_by_state.nd rfl (.inl rfl)) (pgs_cons (pg_name (i := 3) sc_pairs_by_state.nd rfl (.inl rfl)) (pgs_cons (pg_name (i := 4) sc_pairs_by_state.nd rfl (.inl rfl)) pgs_nil))))
  (pss_one (ps_expr (pe_bm PySem.F.plainAttrs_list PySem.F.slot_list_append PySem.F.type_list_append mt_append (pe_dsetd (pv 1) (pv 2) (pe_lst pa_nil) ⟨rfl, rfl, rfl, rfl⟩) (pa_cons (pe_tup (pa_cons (pv 3) (pa_cons (pv 4) pa_nil))) pa_nil)))))
  (pss_one (ps_ret (pe_lock (pe_dc (own := [("state", 2)]) (g := gName 2) (tt := tYes) rfl sc_pairs_by_state.nd (pi_keys (pv 1)) (blkOk_by (N := N_pairs_by_state) (sc := defScope s_pairs_by_state) (by decide +kernel)) (fun _ _ _ _ _ => (pg_name (i := 2) sc_pairs_by_state.nd rfl (.inl rfl))) (fun _ _ _ _ _ => pts_nil) (fun _ _ _ _ _ => (pv 2)) (fun _ _ _ _ _ => (pe_callTy (c_tupleK (K := K)) (by rfl) T.n_tuple (by rfl) (pa_cons (pe_dget hu (pv 1) (pv 2) (fun _ _ => rfl)) pa_nil))))))))), ?_⟩
    walk_at "g"
    intro d hd
    have e1 : Ex H (upd H d (.dK [])) := Ex.new hd
    have d1 : (upd H d (.dK [])) d = some (.dK []) := upd_same
    generalize (upd H d (.dK [])) = H1 at e1 d1
    walk_at "g"
    refine for_t rfl (ex_t e1 hS) (fun j σ' H' => ∃ y2 y3 y4 kvs G, σ' = [some (.ref a), some (.ref d), y2, y3, y4] ∧ Ex H H' ∧ H' d = some (.dK kvs) ∧ kvs.length ≤ j ∧ Grp H H' kvs G ∧ ∀ k, Tups H' (G k) ((pairsF (rows.take j) k).map pairD))
      ⟨_, _, _, _, fun _ => [], rfl, e1, d1, Nat.le_refl _, Grp.nil fun _ => rfl, fun _ => .nil⟩ (fun j σ' H' _ ⟨_, _, _, _, _, _, e, _⟩ => ex_t e hS) ?_ ?_
    · rintro j x σ' H' hx ⟨y2, y3, y4, kvs, G, rfl, e2, d2, kl, g, tps⟩
      obtain ⟨z, hz, p, rfl, hp⟩ := hT.get hx
      rw [List.getElem?_map] at hz
      obtain ⟨st, hst, rfl⟩ := Option.map_eq_some_iff.mp hz
      have hj : j < rows.length := (List.getElem?_eq_some_iff.mp hst).1
      have tk : rows.take (j + 1) = rows.take j ++ [st] := by
        rw [List.take_add_one, hst]
        rfl
      have glen : ∀ k, (G k).length ≤ 1000 := fun k => by
        rw [(tps k).len, List.length_map]
        unfold pairsF
        have := List.length_filter_le (fun s : StepD => decide (Sum.inl s.1 = k)) (rows.take j)
        rw [List.length_take] at this
        omega
      refine ⟨p, stepV st, rfl, .inl (.inl (e2 _ _ hp)), rfl, _, _, rfl, _, _, rfl, _, _, rfl, rfl, ?_⟩
      walk_at "g"
      refine ⟨_, rfl, d, rfl, .inl ⟨kvs, .inl d2⟩, ?_⟩
      walk_at "g"
      refine ⟨sz_of (by show 0 ≤ 100000; decide), fun lp hlp => ?_⟩
      have dl : d ≠ lp := ne_of_none d2 hlp
      have e3 : Ex H' (upd H' lp (.lst [])) := Ex.new hlp
      have new : ∀ {H5 : Hp} {G' : List V} {tp : Addr}, Tx H' H5 → H5 tp = some (.tup (pairD st)) → G' = G (.inl st.1) → ∀ k', Tups H5 (if k' = .inl st.1 then G' ++ [.ref tp] else G k') ((pairsF (rows.take (j + 1)) k').map pairD) := fun {H5 G' tp} t5 h5 eg k' => by
        rw [tk, pairsF_snoc]
        by_cases zz : k' = .inl st.1
        · rw [if_pos zz, if_pos zz, List.map_append, eg]
          exact ((tps _).tx t5).snoc ⟨tp, rfl, h5⟩
        · rw [if_neg zz, if_neg zz]
          exact (tps k').tx t5
      refine ⟨kvs, .inl st.1, e3 _ _ d2, rfl, sz_lt (by omega), fun v hv => ?_, fun hn => ?_⟩
      · obtain ⟨l, rfl, h2, h3, h4⟩ := g.val _ _ hv
        have ld : l ≠ d := ne_of h2 d2 (by intro z; cases z)
        refine ⟨.inl ⟨rfl, _, .inl (.inl (e3 _ _ h2))⟩, ?_⟩
        walk_at "g"
        refine ⟨sz_of (by show 2 ≤ 100000; decide), fun tp htp => ?_⟩
        have e4 : Ex H' (upd (upd H' lp (.lst [])) tp (.tup (pairD st))) := e3.trans (Ex.new htp)
        have ltp : l ≠ tp := ne_of_none (e3 _ _ h2) htp
        walk_at "g"
        refine app_l (e4 _ _ h2) (sz_lt (by have := glen (.inl st.1); omega)) ?_
        walk_at "g"
        refine ⟨_, _, _, kvs, _, rfl, ex_upd (e2.trans e4) h3, by rw [upd_ne ld.symm]; exact e4 _ _ d2, by omega, g.more (x := .ref tp) hv (fun b xs hb h => by rw [upd_ne hb]; exact e4 _ _ h) upd_same, ?_⟩
        exact new ((tx_ex e4).trans (tx_lst (e4 _ _ h2))) (by rw [upd_ne ltp.symm, upd_same]; rfl) rfl
      · have hl4 : (upd (upd H' lp (.lst [])) d (.dK (putK kvs (.inl st.1) (.ref lp)))) lp = some (.lst []) := by rw [upd_ne dl.symm, upd_same]
        have hd4 : (upd (upd H' lp (.lst [])) d (.dK (putK kvs (.inl st.1) (.ref lp)))) d = some (.dK (putK kvs (.inl st.1) (.ref lp))) := upd_same
        refine ⟨.inl ⟨rfl, _, .inl (.inl hl4)⟩, ?_⟩
        walk_at "g"
        refine ⟨sz_of (by show 2 ≤ 100000; decide), fun tp htp => ?_⟩
        have hlp0 : H lp = none := fresh_back e2 hlp
        have ltp : lp ≠ tp := ne_of_none hl4 htp
        have dtp : d ≠ tp := ne_of_none hd4 htp
        walk_at "g"
        refine app_l (Ex.new htp _ _ hl4) (sz_lt (by decide)) ?_
        walk_at "g"
        have gk : G (.inl st.1) = [] := by
          by_cases zz : G (.inl st.1) = []
          · exact zz
          · have := g.has _ zz
            rw [hn] at this
            cases this
        refine ⟨_, _, _, _, _, rfl, ex_upd ((ex_upd (e2.trans e3) hd).trans (Ex.new htp)) hlp0, by rw [upd_ne dl]; exact Ex.new htp _ _ hd4, Nat.le_trans (len_put _ _ _) (by omega), g.new (x := .ref tp) hn hlp hlp0 (fun b xs hb h => ?_) upd_same, ?_⟩
        · rw [upd_ne hb]
          refine Ex.new htp _ _ ?_
          rw [upd_ne (ne_of h d2 (by intro z; cases z))]
          exact e3 _ _ h
        · exact new (((tx_ex e3).trans (tx_dk (e3 _ _ d2))).trans ((tx_ex (Ex.new htp)).trans (tx_lst (Ex.new htp _ _ hl4)))) (by rw [upd_ne ltp.symm, upd_same]; rfl) rfl
    · rintro σ' H' ⟨y2, y3, y4, kvs, G, rfl, e2, d2, kl, g, tps⟩
      have lu : us.length = rows.length := by rw [hT.len, List.length_map]
      rw [lu, List.take_length] at tps
      rw [lu] at kl
      walk_at "g"
      refine grp_tupK trivial rfl (fun _ => rfl) (fun _ => rfl) (fun _ => rfl) d2 g (by omega) fun p H2 hp e3 ⟨k2, h2, h3⟩ => ?_
      exact q p H2 (fresh_back e2 hp) (e2.trans e3) ⟨k2, G, h2, h3, fun k => (tps k).tx (tx_ex e3)⟩
end
end K12

set_option Elab.async false
set_option linter.all false
set_option maxRecDepth 100000
namespace K12
open PySem PySem.Spec PyProof.Rows L2 Evl AE
local macro_rules | `(tactic| walk_at "c") => `(tactic| first | exact ⟨by decide, by decide⟩ | exact .inr ⟨by decide, by decide⟩ | exact .inl ⟨by decide, by decide⟩ | exact ⟨by decide, by decide, by decide⟩ | (show (0 : Int) < _; decide))
local macro_rules | `(tactic| walk_at "s") => `(tactic| first
  | (with_reducible refine r_var rfl ?_) | (with_reducible refine r_c ?_) | (with_reducible refine r_op ?_) | (with_reducible refine r_un ?_) | (with_reducible refine r_I0 ?_) | (with_reducible refine r_U ?_)
  | (with_reducible refine r_eq rfl ?_) | (with_reducible refine r_ne rfl ?_) | (with_reducible refine r_chain ?_) | (with_reducible refine r_test ?_) | (with_reducible refine r_tB ?_)
  | (with_reducible refine r_bl ?_) | (with_reducible refine r_and ?_) | (with_reducible refine r_or ?_) | (with_reducible refine r_not ?_) | (with_reducible refine r_nil ?_) | (with_reducible refine r_cons ?_)
  | (with_reducible refine r_tup ?_) | (with_reducible refine r_lst ?_) | (with_reducible refine r_cb ?_) | (with_reducible refine r_call ?_) | (with_reducible refine r_seq ?_) | (with_reducible refine r_set ?_)
  | (with_reducible refine r_drop ?_) | (with_reducible refine r_ret ?_) | (with_reducible refine r_next ?_) | (with_reducible refine r_if ?_) | (with_reducible refine r_sl ?_) | (with_reducible refine r_nop ?_) | (with_reducible refine r_prt ?_) | (with_reducible refine r_some ?_)
  | (with_reducible refine add_int ?_) | (with_reducible refine int_i ?_) | (with_reducible refine r_forR1 ?_) | (with_reducible refine r_forL ?_) | (with_reducible refine r_andV ?_) | (with_reducible refine r_orV ?_) | (with_reducible refine r_notV ?_) | (with_reducible refine r_ifE ?_) | (with_reducible refine r_lcL ?_) | (with_reducible refine r_fld ?_) | (with_reducible refine r_get ?_) | (with_reducible refine r_din ?_) | (with_reducible refine r_dget2 ?_) | ((with_reducible refine r_I ?_ ?_); (walk_at "c")))
local macro_rules | `(tactic| walk_at "g") => `(tactic| repeat walk_at "s")
section
variable {P : Program} {w : World} {K : PySem.W.Frag} {mg : Str → Option Value} {base : Heap}
theorem Ch.trans {x : Addr} {H H1 H2 : Hp} (a : Ch x H H1) (b : Ch x H1 H2) : Ch x H H2 := fun c o n h => b c o n (a c o n h)
theorem ch_ex {x : Addr} {H H1 : Hp} (e : Ex H H1) : Ch x H H1 := fun c o _ h => e c o h
theorem tx_ins {H H' : Hp} {x C dx : Addr} {fs : List (Str × V)} (hx : H x = some (.ins C dx fs)) (c : Ch x H H') : Tx H H' := fun a xs h => c a _ (fun z => by subst z; rw [hx] at h; cases h) h
structure Mach where
  size : Int
  marks : List Int
  rows : List StepD
  now : Int
def marksF (n : Int) (ms : List Int) : List Int := ((List.range n.toNat).map fun (k : Nat) => (k : Int)).filter fun k => decide (k ∈ ms)
def MachAt (H : Hp) (x C : Addr) (m : Mach) : Prop := ∃ (dx pm ps de dp : Addr) (us : List V), H x = some (.ins C dx [("size", .int m.size), ("marks", .ref pm), ("steps", .ref ps), ("now", .int m.now), ("_ends", .ref de), ("_pairs", .ref dp)]) ∧
    H pm = some (.tup (m.marks.map V.int)) ∧ H ps = some (.tup us) ∧ Tups H us (m.rows.map stepV) ∧ EndsAt H de m.rows ∧ PairsAt H dp m.rows
theorem EndsAt.ch {H H' : Hp} {x C dx d : Addr} {fs : List (Str × V)} {rows : List StepD} (hx : H x = some (.ins C dx fs)) (c : Ch x H H') (h : EndsAt H d rows) : EndsAt H' d rows := by
  obtain ⟨kvs, h1, h2⟩ := h
  exact ⟨kvs, c _ _ (ne_of h1 hx (by intro z; cases z)) h1, h2.tx (tx_ins hx c)⟩
theorem PairsAt.ch {H H' : Hp} {x C dx d : Addr} {fs : List (Str × V)} {rows : List StepD} (hx : H x = some (.ins C dx fs)) (c : Ch x H H') (h : PairsAt H d rows) : PairsAt H' d rows := by
  obtain ⟨kvs, G, h1, h2, h3⟩ := h
  exact ⟨kvs, G, c _ _ (ne_of h1 hx (by intro z; cases z)) h1, h2.tx (tx_ins hx c), fun k => (h3 k).tx (tx_ins hx c)⟩
theorem EndsAt.ex {H H' : Hp} {d : Addr} {rows : List StepD} (e : Ex H H') (h : EndsAt H d rows) : EndsAt H' d rows := by
  obtain ⟨kvs, h1, h2⟩ := h
  exact ⟨kvs, e _ _ h1, h2.tx (tx_ex e)⟩
theorem PairsAt.ex {H H' : Hp} {d : Addr} {rows : List StepD} (e : Ex H H') (h : PairsAt H d rows) : PairsAt H' d rows := by
  obtain ⟨kvs, G, h1, h2, h3⟩ := h
  exact ⟨kvs, G, e _ _ h1, h2.tx (tx_ex e), fun k => (h3 k).tx (tx_ex e)⟩
theorem MachAt.ex {H H' : Hp} {x C : Addr} {m : Mach} (e : Ex H H') (h : MachAt H x C m) : MachAt H' x C m := by
  obtain ⟨dx, pm, ps, de, dp, us, h1, h2, h3, h4, h5, h6⟩ := h
  exact ⟨dx, pm, ps, de, dp, us, e _ _ h1, e _ _ h2, e _ _ h3, h4.tx (tx_ex e), h5.ex e, h6.ex e⟩
/-- a machine as it is made from its parts -/
structure Made (n : Int) (ms : List Int) (ss : List StepD) (now : Int) (m : Mach) : Prop where
  size : m.size = n
  marks : m.marks = marksF n ms
  up : m.rows.Pairwise ltS
  mem : ∀ s, s ∈ m.rows ↔ s ∈ ss
  len : m.rows.length ≤ ss.length
  now : m.now = now
def sp_init (K : PySem.W.Frag) : Sp := fun vs H Q _ => ∃ (x C dx am as : Addr) (n now : Int) (ms : List Int) (us : List V) (ss : List StepD), vs = [.ref x, .int n, .ref am, .ref as, .int now] ∧ H x = some (.ins C dx []) ∧ MCls K C ∧ 1 ≤ n ∧ n ≤ 200 ∧
  SqA K H am (ms.map V.int) ∧ (∀ m ∈ ms, 0 ≤ m ∧ m < n) ∧ ms.length ≤ 1000 ∧ SqA K H as us ∧ Tups H us (ss.map stepV) ∧ (∀ s ∈ ss, OkS n s) ∧ ss.length ≤ 600 ∧ 0 ≤ now ∧ now < n ∧
  ∀ m H', Made n ms ss now m → MachAt H' x C m → Ch x H H' → Q .non H'
theorem ok_init (T : Tp K mg) : FnOk P w K mg base CX0 3 T.a_Machine___init__ T.d_Machine___init__ ["self", "size", "marks", "steps", "now"] (sp_init K) := by
  have G_check_size : FnOk P w K mg base CX0 1 T.a_check_size T.d_check_size ["size"] sp_size := ok_size T
  have G_check_marks : FnOk P w K mg base CX0 1 T.a_check_marks T.d_check_marks ["size", "marks"] (sp_marks K) := ok_marks T
  have G_check_steps : FnOk P w K mg base CX0 2 T.a_check_steps T.d_check_steps ["size", "steps"] (sp_steps K) := ok_steps T
  have G_ascending : FnOk P w K mg base CX0 1 T.a_ascending T.d_ascending ["steps"] (sp_asc K) := ok_asc T
  have G_ends_by_ask : FnOk P w K mg base CX0 1 T.a_ends_by_ask T.d_ends_by_ask ["steps"] (sp_ends K) := ok_ends T
  have G_pairs_by_state : FnOk P w K mg base CX0 1 T.a_pairs_by_state T.d_pairs_by_state ["steps"] (sp_pairs K) := ok_pairs T
  refine T.f_Machine___init__.ok sc_Machine___init__ (fun vs H Q E h => ?_) (fun cdv A outer s H vs Q E hr h => ?_)
  · obtain ⟨x, C, dx, am, as, n, now, ms, us, ss, rfl, _⟩ := h
    rfl
  · obtain ⟨x, C, dx, am, as, n, now, ms, us, ss, rfl, hx, mc, n1, n2, hM, hMok, hMl, hS, hT, hok, hSl, w0, w1, q⟩ := h
    have hu := hu_of hr
    refine ⟨_, (pss_cons (ps_expr (pe_call G_check_size (hr.mono (by decide)) (by rfl) T.g_check_size T.f_check_size.kp T.b_check_size .nil pass0 (pa_cons (pv 1) pa_nil)))
  (pss_cons (ps_expr (pe_call G_check_marks (hr.mono (by decide)) (by rfl) T.g_check_marks T.f_check_marks.kp T.b_check_marks .nil pass0 (pa_cons (pv 1) (pa_cons (pv 2) pa_nil))))
  (pss_cons (ps_expr (pe_call G_check_steps (hr.mono (by decide)) (by rfl) T.g_check_steps T.f_check_steps.kp T.b_check_steps .nil pass0 (pa_cons (pv 1) (pa_cons (pv 3) pa_nil))))
  (pss_cons (ps_set (i := 5) sc_Machine___init__.nd rfl (.inl rfl) (pe_call G_ascending (hr.mono (by decide)) (by rfl) T.g_ascending T.f_ascending.kp T.b_ascending .nil pass0 (pa_cons (pv 3) pa_nil)))
  (pss_cons (ps_if (pt_cmpR op_gt (pe_callB c_len (by rfl) T.n_len (by rfl) (pa_cons (pv 5) pa_nil)) (pe_gi rfl T.k_MOST_STEPS) (nomark _)) (pss_one ps_never) pss_nil)
  (pss_cons (ps_if (pt_not (pt_chain op_le op_lt pe_int (pv 4) (pv 1))) (pss_one ps_never) pss_nil)
  (pss_cons (ps_set (i := 6) sc_Machine___init__.nd rfl (.inr rfl) (pe_dc (own := [("mark", 7)]) (g := gName 7) (tt := tYes) rfl sc_Machine___init__.nd (pi_seq (pv 2)) (blkOk_by (N := N_Machine___init__) (sc := defScope s_Machine___init__) (by decide +kernel)) (fun _ _ _ _ _ => (pg_name (i := 7) sc_Machine___init__.nd rfl (.inl rfl))) (fun _ _ _ _ _ => pts_nil) (fun _ _ _ _ _ => (pv 7)) (fun _ _ _ _ _ => pe_bl)))
  (pss_cons (ps_fld (pv 0) (pv 1) rfl)
  (pss_cons (ps_fld (pv 0) (pe_callTy c_tuple (by rfl) T.n_tuple (by rfl) (pa_cons (pe_lc (own := [("state", 8)]) (g := gName 8) rfl sc_Machine___init__.nd (pi_range1 rfl T.n_range (pa_cons (pv 1) pa_nil)) (blkOk_by (N := N_Machine___init__) (sc := defScope s_Machine___init__) (by decide +kernel)) (fun _ _ _ _ _ => (pg_name (i := 8) sc_Machine___init__.nd rfl (.inl rfl))) (fun _ _ _ _ _ => (pts_one (pt_cmp (pc_din hu (pv 8) (pv 6))))) (fun _ _ _ _ _ => (pv 8))) pa_nil)) rfl)
  (pss_cons (ps_fld (pv 0) (pv 5) rfl)
  (pss_cons (ps_fld (pv 0) (pv 4) rfl)
  (pss_cons (ps_fld (pv 0) (pe_call G_ends_by_ask (hr.mono (by decide)) (by rfl) T.g_ends_by_ask T.f_ends_by_ask.kp T.b_ends_by_ask .nil pass0 (pa_cons (pv 5) pa_nil)) rfl)
  (pss_one (ps_fld (pv 0) (pe_call G_pairs_by_state (hr.mono (by decide)) (by rfl) T.g_pairs_by_state T.f_pairs_by_state.kp T.b_pairs_by_state .nil pass0 (pa_cons (pv 5) pa_nil)) rfl)))))))))))))), ?_⟩
    walk_at "g"
    refine ⟨n, rfl, n1, n2, ?_⟩
    walk_at "g"
    refine ⟨n, am, ms, rfl, hM, hMok, ?_⟩
    walk_at "g"
    refine ⟨n, as, us, ss, rfl, hS, hT, hok, fun H1 e1 => ?_⟩
    walk_at "g"
    refine ⟨n, as, us, ss, rfl, hS.ex e1, hT.tx (tx_ex e1), n2, hok, by omega, fun rows ws pr H2 r1 r2 r3 hpr e2 hr2 tr => ?_⟩
    walk_at "g"
    have wl : ws.length = rows.length := by rw [tr.len, List.length_map]
    have e12 := e1.trans e2
    refine len_t (.inl (.inl hr2)) ?_
    walk_at "g"
    refine ite_f (decide_eq_false (by rw [wl]; omega)) ?_
    walk_at "g"
    refine ite_t (decide_eq_true (by omega)) ?_
    walk_at "g"
    refine ite_f (by rw [decide_eq_true w1]; rfl) ?_
    walk_at "g"
    -- marked = {mark: True for mark in marks}
    refine dc_seq rfl (hM.ex e12) (fun D j H3 => Ex H2 H3 ∧ H2 D = none ∧ ∃ kvs, H3 D = some (.dK kvs) ∧ kvs.length ≤ j ∧ ∀ k, (valV kvs k).isSome = true ↔ k ∈ (ms.take j).map Sum.inl)
      (fun D hD => ⟨Ex.new hD, hD, [], upd_same, Nat.le_refl _, fun k => ⟨fun h => (by cases h), fun h => (by cases h)⟩⟩) (fun D j H3 p => p.1) ?_ ?_
    · rintro D j y H3 hy ⟨e3, hD, kvs, h3, kl, ks⟩
      rw [List.getElem?_map] at hy
      obtain ⟨m, hm, rfl⟩ := Option.map_eq_some_iff.mp hy
      have hj : j < ms.length := (List.getElem?_eq_some_iff.mp hm).1
      refine ⟨rfl, yes_q (ite_t rfl ?_)⟩
      walk_at "g"
      refine ⟨kvs, .inl m, rfl, h3, sz_lt (by omega), ex_upd e3 hD, hD, _, upd_same, Nat.le_trans (len_put _ _ _) (by omega), fun k => ?_⟩
      rw [valV_put, List.take_add_one, hm, List.map_append]
      by_cases z : k = .inl m
      · rw [if_pos z, z]
        exact ⟨fun _ => List.mem_append_right _ (List.mem_singleton.mpr rfl), fun _ => rfl⟩
      · rw [if_neg z, ks k]
        exact ⟨fun h => List.mem_append_left _ h, fun h => (List.mem_append.mp h).elim id fun h => absurd (List.mem_singleton.mp h) z⟩
    · rintro D H3 ⟨e3, hD, kvs, h3, kl, ks⟩
      rw [List.length_map, List.take_length] at ks
      have e13 := e12.trans e3
      walk_at "g"
      -- self.size
      refine stf_go (e13 _ _ hx) mc.cl mc.n1 (by show 0 < 1000; decide) fun H4 c4 (x4 : H4 x = some (.ins C dx [("size", .int n)])) => ?_
      have D4 : H4 D = some (.dK kvs) := c4 _ _ (ne_of h3 (e13 _ _ hx) (by intro z; cases z)) h3
      walk_at "g"
      -- self.marks
      refine lc_r (n := n) (fun y => match y with | .int k => decide (k ∈ ms) | _ => false) (fun y => y) (fun R k => ⟨_, rfl, k⟩) ⟨by omega, by omega⟩ (fun _ => rfl) ?_ ?_ fun L5 H5 hL5 e5 l5 => ?_
      · intro y hy H5 e5 R k
        unfold intsV at hy
        obtain ⟨i, hi, rfl⟩ := List.mem_map.mp hy
        walk_at "g"
        refine ⟨D, _, rfl, DGet.k (k := Sum.inl (i : Int)) (e5 _ _ D4), _, rfl, ?_⟩
        have ee : (valV kvs (Sum.inl (i : Int))).isSome = decide ((i : Int) ∈ ms) := by
          rw [Bool.eq_iff_iff, ks, decide_eq_true_iff]
          constructor
          · intro h
            obtain ⟨z, hz, e⟩ := List.mem_map.mp h
            cases e
            exact hz
          · intro h
            exact List.mem_map.mpr ⟨_, h, rfl⟩
        rw [ee]
        exact k H5 (Ex.refl _)
      · intro y hy _ H5 e5 R k
        walk_at "g"
        exact k H5 (Ex.refl _)
      · walk_at "g"
        refine tup_l (.inl (.inl l5)) fun pm H6 hpm e6 t6 => ?_
        have e46 := e5.trans e6
        walk_at "g"
        refine stf_go (e46 _ _ x4) mc.cl mc.n2 (by show 1 < 1000; decide) fun H7 c7 (x7 : H7 x = some (.ins C dx [("size", .int n), ("marks", .ref pm)])) => ?_
        walk_at "g"
        refine stf_go x7 mc.cl mc.n3 (by show 2 < 1000; decide) fun H8 c8 (x8 : H8 x = some (.ins C dx [("size", .int n), ("marks", .ref pm), ("steps", .ref pr)])) => ?_
        walk_at "g"
        refine stf_go x8 mc.cl mc.n4 (by show 3 < 1000; decide) fun H9 c9 (x9 : H9 x = some (.ins C dx [("size", .int n), ("marks", .ref pm), ("steps", .ref pr), ("now", .int now)])) => ?_
        walk_at "g"
        have nx : ∀ {H' : Hp} {a : Addr} {ys : List V} {fs : List (Str × V)}, H' x = some (.ins C dx fs) → H' a = some (.tup ys) → a ≠ x := fun h1 h2 => ne_of h2 h1 (by intro z; cases z)
        have c69 : Ch x H6 H9 := Ch.trans c7 (Ch.trans c8 c9)
        have c29 : Ch x H2 H9 := Ch.trans (ch_ex e3) (Ch.trans c4 (Ch.trans (ch_ex e46) c69))
        have pr9 : H9 pr = some (.tup ws) := c29 _ _ (nx (e12 _ _ hx) hr2) hr2
        have tr9 : Tups H9 ws (rows.map stepV) := tr.tx (tx_ins (e12 _ _ hx) c29)
        refine ⟨pr, ws, rows, rfl, .inl (.inl pr9), tr9, by omega, fun de H10 hde e10 E10 => ?_⟩
        walk_at "g"
        refine stf_go (e10 _ _ x9) mc.cl mc.n5 (by show 4 < 1000; decide) fun H11 c11 (x11 : H11 x = some (.ins C dx [("size", .int n), ("marks", .ref pm), ("steps", .ref pr), ("now", .int now), ("_ends", .ref de)])) => ?_
        walk_at "g"
        have c911 : Ch x H9 H11 := Ch.trans (ch_ex e10) c11
        have pr11 : H11 pr = some (.tup ws) := c911 _ _ (nx x9 pr9) pr9
        have tr11 : Tups H11 ws (rows.map stepV) := tr9.tx (tx_ins x9 c911)
        refine ⟨pr, ws, rows, rfl, .inl (.inl pr11), tr11, by omega, fun dp H12 hdp e12' E12 => ?_⟩
        walk_at "g"
        refine stf_go (e12' _ _ x11) mc.cl mc.n6 (by show 5 < 1000; decide) fun H13 c13 (x13 : H13 x = some (.ins C dx [("size", .int n), ("marks", .ref pm), ("steps", .ref pr), ("now", .int now), ("_ends", .ref de), ("_pairs", .ref dp)])) => ?_
        have c1113 : Ch x H11 H13 := Ch.trans (ch_ex e12') c13
        have c613 : Ch x H6 H13 := Ch.trans c69 (Ch.trans c911 c1113)
        have t6' : H6 pm = some (.tup ((marksF n ms).map V.int)) := by
          rw [t6, List.map_id']
          unfold intsV marksF
          rw [List.filter_map, List.filter_map, List.map_map]
          rfl
        refine q ⟨n, marksF n ms, rows, now⟩ H13 ⟨rfl, rfl, r1, r2, r3, rfl⟩ ⟨dx, pm, pr, de, dp, ws, x13, ?_, ?_, ?_, ?_, ?_⟩ ?_
        · exact c613 _ _ (nx (e46 _ _ x4) t6') t6'
        · exact c1113 _ _ (nx x11 pr11) pr11
        · exact tr11.tx (tx_ins x11 c1113)
        · exact (E10.ch (e10 _ _ x9) c11).ch x11 c1113
        · exact E12.ch (e12' _ _ x11) c13
        · exact Ch.trans (ch_ex e12) (Ch.trans c29 (Ch.trans c911 c1113))
end
end K12

set_option Elab.async false
set_option linter.all false
set_option maxRecDepth 100000
namespace K12
open PySem PySem.Spec PyProof.Rows L2 Evl AE
local macro_rules | `(tactic| walk_at "c") => `(tactic| first | exact ⟨by decide, by decide⟩ | exact .inr ⟨by decide, by decide⟩ | exact .inl ⟨by decide, by decide⟩ | exact ⟨by decide, by decide, by decide⟩ | (show (0 : Int) < _; decide))
local macro_rules | `(tactic| walk_at "s") => `(tactic| first
  | (with_reducible refine r_var rfl ?_) | (with_reducible refine r_c ?_) | (with_reducible refine r_op ?_) | (with_reducible refine r_un ?_) | (with_reducible refine r_I0 ?_) | (with_reducible refine r_U ?_)
  | (with_reducible refine r_eq rfl ?_) | (with_reducible refine r_ne rfl ?_) | (with_reducible refine r_chain ?_) | (with_reducible refine r_test ?_) | (with_reducible refine r_tB ?_)
  | (with_reducible refine r_bl ?_) | (with_reducible refine r_and ?_) | (with_reducible refine r_or ?_) | (with_reducible refine r_not ?_) | (with_reducible refine r_nil ?_) | (with_reducible refine r_cons ?_)
  | (with_reducible refine r_tup ?_) | (with_reducible refine r_lst ?_) | (with_reducible refine r_cb ?_) | (with_reducible refine r_call ?_) | (with_reducible refine r_seq ?_) | (with_reducible refine r_set ?_)
  | (with_reducible refine r_drop ?_) | (with_reducible refine r_ret ?_) | (with_reducible refine r_next ?_) | (with_reducible refine r_if ?_) | (with_reducible refine r_sl ?_) | (with_reducible refine r_nop ?_) | (with_reducible refine r_prt ?_) | (with_reducible refine r_some ?_)
  | (with_reducible refine add_int ?_) | (with_reducible refine int_i ?_) | (with_reducible refine r_forR1 ?_) | (with_reducible refine r_forL ?_) | (with_reducible refine r_andV ?_) | (with_reducible refine r_orV ?_) | (with_reducible refine r_notV ?_) | (with_reducible refine r_ifE ?_) | (with_reducible refine r_lcL ?_) | (with_reducible refine r_fld ?_) | (with_reducible refine r_get ?_) | (with_reducible refine r_din ?_) | (with_reducible refine r_dget2 ?_) | ((with_reducible refine r_I ?_ ?_); (walk_at "c")))
local macro_rules | `(tactic| walk_at "g") => `(tactic| repeat walk_at "s")
section
variable {P : Program} {w : World} {K : PySem.W.Frag} {mg : Str → Option Value} {base : Heap}
def KCls (T : Tp K mg) (C : Addr) : Prop := C = T.C_Service ∨ C = T.C_Pattern
theorem KCls.m {T : Tp K mg} {C : Addr} (h : KCls T C) : MCls K C := by
  rcases h with rfl | rfl
  · exact T.cf_Service
  · exact T.cf_Pattern
def sp_endsAt (K : PySem.W.Frag) : Sp := fun vs H Q _ => ∃ (x C : Addr) (m : Mach) (st : Int) (ask : Str), vs = [.ref x, .int st, .str ask] ∧ MCls K C ∧ MachAt H x C m ∧
  ∀ p H', Ex H H' → H' p = some (.tup (endsF m.rows [.inl st, .inr ask])) → Q (.ref p) H'
theorem ok_endsAt (T : Tp K mg) : FnOk P w K mg base CX0 1 T.a_Machine_ends_at T.d_Machine_ends_at ["self", "state", "ask"] (sp_endsAt K) := by
  refine T.f_Machine_ends_at.ok sc_Machine_ends_at (fun vs H Q E h => ?_) (fun cdv A outer s H vs Q E hr h => ?_)
  · obtain ⟨x, C, m, st, ask, rfl, _⟩ := h
    rfl
  · obtain ⟨x, C, m, st, ask, rfl, mc, hm, q⟩ := h
    have hu := hu_of hr
    refine ⟨_, (pss_one (ps_ret (pe_dget2 hu (pe_fld (pv 0) rfl) (pe_tup (pa_cons (pv 1) (pa_cons (pv 2) pa_nil))) (pe_tup pa_nil) ⟨rfl, rfl, rfl, rfl⟩))), ?_⟩
    obtain ⟨dx, pm, ps, de, dp, us, h1, h2, h3, h4, ⟨kvs, h5, g⟩, h6⟩ := hm
    walk_at "g"
    refine gtf_go h1 mc.cl mc.n5 (v := .ref de) rfl ?_
    refine ⟨de, rfl, .inr ⟨kvs, .inl h5⟩, ?_⟩
    walk_at "g"
    refine ⟨sz_of (by show 2 ≤ 100000; decide), fun kp hkp => ?_⟩
    walk_at "g"
    refine ⟨sz_of (by show 0 ≤ 100000; decide), fun ep hep => ?_⟩
    have e1 : Ex H (upd (upd H kp (.tup [.int st, .str ask])) ep (.tup [])) := (Ex.new hkp).trans (Ex.new hep)
    refine ⟨_, DGet.t (b := kp) (k := [.inl st, .inr ask]) (e1 _ _ h5) (Ex.new hep _ _ upd_same), ?_⟩
    by_cases z : endsF m.rows [.inl st, .inr ask] = []
    · rw [(g _).1 z]
      refine q ep _ e1 ?_
      rw [upd_same, z]
    · obtain ⟨p, a1, a2⟩ := (g _).2 z
      rw [a1]
      exact q p _ e1 (e1 _ _ a2)
def sp_getitem (T : Tp K mg) : Sp := fun vs H Q _ => ∃ (x C : Addr) (m : Mach) (ask : Str), vs = [.ref x, .str ask] ∧ KCls T C ∧ MachAt H x C m ∧
  ∀ p H', Ex H H' → H' p = some (.tup (endsF m.rows [.inl m.now, .inr ask])) → Q (.ref p) H'
theorem ok_getitem (T : Tp K mg) : FnOk P w K mg base CX0 2 T.a_Machine___getitem__ T.d_Machine___getitem__ ["self", "at"] (sp_getitem T) := by
  have G_ends_at : FnOk P w K mg base CX0 1 T.a_Machine_ends_at T.d_Machine_ends_at ["self", "state", "ask"] (sp_endsAt K) := ok_endsAt T
  refine T.f_Machine___getitem__.ok sc_Machine___getitem__ (fun vs H Q E h => ?_) (fun cdv A outer s H vs Q E hr h => ?_)
  · obtain ⟨x, C, m, ask, rfl, _⟩ := h
    rfl
  · obtain ⟨x, C, m, ask, rfl, kc, hm, q⟩ := h
    have hm' := hm
    obtain ⟨dx, pm, ps, de, dp, us, h1, h2, h3, h4, h5, h6⟩ := hm'
    have mc := kc.m
    rcases kc with rfl | rfl
    · refine ⟨_, (pss_one (ps_ret (pe_meth (pv 0) T.cf_Service.cl T.ea_Service G_ends_at (hr.mono (by decide)) T.b_Machine_ends_at .nil pass0 (pa_cons (pe_fld (pv 0) rfl) (pa_cons (pv 1) pa_nil))))), ?_⟩
      refine ⟨_, rfl, x, dx, _, rfl, h1, rfl, ?_⟩
      walk_at "g"
      refine gtf_go h1 mc.cl mc.n4 (v := .int m.now) rfl ?_
      walk_at "g"
      exact ⟨x, _, m, m.now, ask, rfl, mc, hm, q⟩
    · refine ⟨_, (pss_one (ps_ret (pe_meth (pv 0) T.cf_Pattern.cl T.ea_Pattern G_ends_at (hr.mono (by decide)) T.b_Machine_ends_at .nil pass0 (pa_cons (pe_fld (pv 0) rfl) (pa_cons (pv 1) pa_nil))))), ?_⟩
      refine ⟨_, rfl, x, dx, _, rfl, h1, rfl, ?_⟩
      walk_at "g"
      refine gtf_go h1 mc.cl mc.n4 (v := .int m.now) rfl ?_
      walk_at "g"
      exact ⟨x, _, m, m.now, ask, rfl, mc, hm, q⟩
theorem inV_int (k : Int) (ms : List Int) : inV (.int k) (ms.map V.int) = decide (k ∈ ms) := by
  unfold inV
  rw [List.any_map]
  rw [Bool.eq_iff_iff, List.any_eq_true, decide_eq_true_iff]
  constructor
  · rintro ⟨y, hy, e⟩
    have e' : (y == k) = true := e
    rw [← eq_of_beq e']
    exact hy
  · exact fun h => ⟨k, h, show (k == k) = true by simp⟩
theorem flat_ints (ms : List Int) : (ms.map V.int).all flatV = true := by
  rw [List.all_eq_true]
  intro y hy
  obtain ⟨k, _, rfl⟩ := List.mem_map.mp hy
  rfl
def sp_bool (K : PySem.W.Frag) : Sp := fun vs H Q _ => ∃ (x C : Addr) (m : Mach), vs = [.ref x] ∧ MCls K C ∧ MachAt H x C m ∧ Q (.bl (decide (m.now ∈ m.marks))) H
theorem ok_bool (T : Tp K mg) : FnOk P w K mg base CX0 1 T.a_Machine___bool__ T.d_Machine___bool__ ["self"] (sp_bool K) := by
  refine T.f_Machine___bool__.ok sc_Machine___bool__ (fun vs H Q E h => ?_) (fun cdv A outer s H vs Q E hr h => ?_)
  · obtain ⟨x, C, m, rfl, _⟩ := h
    rfl
  · obtain ⟨x, C, m, rfl, mc, hm, q⟩ := h
    refine ⟨_, (pss_one (ps_ret (pe_cmpR op_in_seq (pe_fld (pv 0) rfl) (pe_fld (pv 0) rfl) rfl))), ?_⟩
    obtain ⟨dx, pm, ps, de, dp, us, h1, h2, h3, h4, h5, h6⟩ := hm
    walk_at "g"
    refine gtf_go h1 mc.cl mc.n4 (v := .int m.now) rfl ?_
    walk_at "g"
    refine gtf_go h1 mc.cl mc.n2 (v := .ref pm) rfl ?_
    refine ⟨pm, m.marks.map V.int, rfl, .inr (.inl (.inl h2)), rfl, flat_ints _, ?_⟩
    rw [inV_int]
    exact q
end
end K12

set_option Elab.async false
set_option linter.all false
set_option maxRecDepth 100000
namespace K12
open PySem PySem.Spec PyProof.Rows L2 Evl AE
local macro_rules | `(tactic| walk_at "c") => `(tactic| first | exact ⟨by decide, by decide⟩ | exact .inr ⟨by decide, by decide⟩ | exact .inl ⟨by decide, by decide⟩ | exact ⟨by decide, by decide, by decide⟩ | (show (0 : Int) < _; decide))
local macro_rules | `(tactic| walk_at "s") => `(tactic| first
  | (with_reducible refine r_var rfl ?_) | (with_reducible refine r_c ?_) | (with_reducible refine r_op ?_) | (with_reducible refine r_un ?_) | (with_reducible refine r_I0 ?_) | (with_reducible refine r_U ?_)
  | (with_reducible refine r_eq rfl ?_) | (with_reducible refine r_ne rfl ?_) | (with_reducible refine r_chain ?_) | (with_reducible refine r_test ?_) | (with_reducible refine r_tB ?_)
  | (with_reducible refine r_bl ?_) | (with_reducible refine r_and ?_) | (with_reducible refine r_or ?_) | (with_reducible refine r_not ?_) | (with_reducible refine r_nil ?_) | (with_reducible refine r_cons ?_)
  | (with_reducible refine r_tup ?_) | (with_reducible refine r_lst ?_) | (with_reducible refine r_cb ?_) | (with_reducible refine r_call ?_) | (with_reducible refine r_seq ?_) | (with_reducible refine r_set ?_)
  | (with_reducible refine r_drop ?_) | (with_reducible refine r_ret ?_) | (with_reducible refine r_next ?_) | (with_reducible refine r_if ?_) | (with_reducible refine r_sl ?_) | (with_reducible refine r_nop ?_) | (with_reducible refine r_prt ?_) | (with_reducible refine r_some ?_)
  | (with_reducible refine add_int ?_) | (with_reducible refine int_i ?_) | (with_reducible refine r_forR1 ?_) | (with_reducible refine r_forL ?_) | (with_reducible refine r_andV ?_) | (with_reducible refine r_orV ?_) | (with_reducible refine r_notV ?_) | (with_reducible refine r_ifE ?_) | (with_reducible refine r_lcL ?_) | (with_reducible refine r_fld ?_) | (with_reducible refine r_get ?_) | (with_reducible refine r_din ?_) | (with_reducible refine r_dget2 ?_) | ((with_reducible refine r_I ?_ ?_); (walk_at "c")))
local macro_rules | `(tactic| walk_at "g") => `(tactic| repeat walk_at "s")
section
variable {P : Program} {w : World} {K : PySem.W.Frag} {mg : Str → Option Value} {base : Heap}
/-! ### asks -/
def letC (d : Int) : Nat := 97 + (d % 26).toNat
def wordL (row : List Int) : List Nat := (row.take 8).map letC
def ltrs : Str := "abcdefghijklmnopqrstuvwxyz"
theorem ltrs_at : ∀ i : Fin 26, ltrs.cps.toList[i.val]? = some (97 + i.val) := by decide +kernel
theorem ltrs_len : ltrs.length = 26 := by decide +kernel
theorem ltrs_ix (d : Int) : atI ltrs.cps.toList (d % 26) = some (letC d) := by
  have h1 : (d % 26).toNat < 26 := by omega
  have h0 : d % 26 = (((d % 26).toNat : Nat) : Int) := by omega
  rw [h0]
  exact atI_nat (ltrs_at ⟨_, h1⟩)
def letV : V → V
  | .int d => .str ⟨#[letC d]⟩
  | v => v
theorem let_map : ∀ l : List Int, ((l.map V.int).filter fun _ => true).map letV = ((l.map letC).map fun c => (⟨#[c]⟩ : Str)).map V.str := fun l => by
  rw [filter_yes, List.map_map, List.map_map, List.map_map]
  rfl
theorem sum_signs : ∀ l : List Nat, ((l.map fun c => (⟨#[c]⟩ : Str)).map fun x => x.length).sum = l.length
  | [] => rfl
  | c :: l => by
    rw [List.map_cons, List.map_cons, List.sum_cons, sum_signs l]
    show 1 + l.length = l.length + 1
    omega
/-- the i-th ask of a row -/
def askL (row : List Int) (i : Nat) : List Nat :=
  if row.getD 8 0 % 2 = 0 then (wordL row).take ((row.getD 9 0 + 3 * i) % 8 + 1).toNat
  else (wordL row).take (row.getD 10 0 % (row.getD 9 0 % 8 + 1)).toNat ++ [letC (row.getD 11 0 + (row.getD 12 0 % 6 * 2 + 1) * i)] ++
    ((wordL row).take (row.getD 9 0 % 8 + 1).toNat).drop ((row.getD 10 0 % (row.getD 9 0 % 8 + 1)).toNat + 1)
def asksF (row : List Int) (many : Nat) : List Str := (List.range many).map fun i => ⟨(askL row i).toArray⟩
def AskOk (x : Str) : Prop := 1 ≤ x.length ∧ x.length ≤ 8 ∧ ∀ c ∈ x.cps.toList, 97 ≤ c ∧ c ≤ 122
theorem letC_ok (d : Int) : 97 ≤ letC d ∧ letC d ≤ 122 := by unfold letC; omega
theorem word_ok (row : List Int) : ∀ c ∈ wordL row, 97 ≤ c ∧ c ≤ 122 := fun c hc => by
  obtain ⟨d, _, rfl⟩ := List.mem_map.mp hc
  exact letC_ok d
theorem word_len {row : List Int} (h : 13 ≤ row.length) : (wordL row).length = 8 := by
  unfold wordL
  rw [List.length_map, List.length_take]
  omega
theorem ask_ok {row : List Int} (h : 13 ≤ row.length) (i : Nat) : 1 ≤ (askL row i).length ∧ (askL row i).length ≤ 8 ∧ ∀ c ∈ askL row i, 97 ≤ c ∧ c ≤ 122 := by
  have wl := word_len h
  unfold askL
  by_cases z : row.getD 8 0 % 2 = 0
  · rw [if_pos z]
    refine ⟨by rw [List.length_take]; omega, by rw [List.length_take]; omega, fun c hc => word_ok row c (List.mem_of_mem_take hc)⟩
  · rw [if_neg z]
    have p0 : 0 ≤ row.getD 10 0 % (row.getD 9 0 % 8 + 1) := by
      have : row.getD 9 0 % 8 + 1 ≠ 0 := by omega
      exact Int.emod_nonneg _ this
    have p1 : row.getD 10 0 % (row.getD 9 0 % 8 + 1) < row.getD 9 0 % 8 + 1 := Int.emod_lt_of_pos _ (by omega)
    generalize row.getD 10 0 % (row.getD 9 0 % 8 + 1) = p at p0 p1
    refine ⟨by simp only [List.length_append, List.length_take, List.length_drop, List.length_cons, List.length_nil]; omega, by simp only [List.length_append, List.length_take, List.length_drop, List.length_cons, List.length_nil]; omega, fun c hc => ?_⟩
    rcases List.mem_append.mp hc with hc | hc
    · rcases List.mem_append.mp hc with hc | hc
      · exact word_ok row c (List.mem_of_mem_take hc)
      · rw [List.mem_singleton.mp hc]
        exact letC_ok _
    · exact word_ok row c (List.mem_of_mem_take (List.mem_of_mem_drop hc))
theorem asks_ok {row : List Int} (h : 13 ≤ row.length) (many : Nat) : ∀ x ∈ asksF row many, AskOk x := fun x hx => by
  obtain ⟨i, _, rfl⟩ := List.mem_map.mp hx
  obtain ⟨a, b, c⟩ := ask_ok h i
  exact ⟨by show 1 ≤ (askL row i).toArray.size; rw [List.size_toArray]; exact a, by show (askL row i).toArray.size ≤ 8; rw [List.size_toArray]; exact b, fun d hd => c d (by simpa using hd)⟩
theorem asks_len (row : List Int) (many : Nat) : (asksF row many).length = many := by
  unfold asksF
  rw [List.length_map, List.length_range]
theorem asks_snoc (row : List Int) (n : Nat) : (asksF row (n + 1)).map V.str = (asksF row n).map V.str ++ [.str ⟨(askL row n).toArray⟩] := by
  unfold asksF
  rw [List.range_succ, List.map_append, List.map_append]
  rfl
theorem cutS_toI (z : List Nat) {n : Int} (h : 0 ≤ n) : cutS ⟨z.toArray⟩ none (some n) = ⟨(z.take n.toNat).toArray⟩ := by
  have e : n = (n.toNat : Int) := by omega
  conv => lhs; rw [e]
  exact cutS_to _ _
theorem cutS_midI (z : List Nat) {a b : Int} (h : 0 ≤ a) (h2 : 0 ≤ b) : cutS ⟨z.toArray⟩ (some a) (some b) = ⟨((z.take b.toNat).drop a.toNat).toArray⟩ := by
  have e : a = (a.toNat : Int) := by omega
  have e2 : b = (b.toNat : Int) := by omega
  conv => lhs; rw [e, e2]
  exact cutS_mid _ _ _
theorem app_codes (a b : List Nat) : (⟨a.toArray⟩ : Str) ++ (⟨b.toArray⟩ : Str) = ⟨(a ++ b).toArray⟩ := by
  refine Str.ext' ?_
  rw [Str.cps_append]
  simp
def sp_asks (K : PySem.W.Frag) : Sp := fun vs H Q _ => ∃ (a : Addr) (row : List Int) (many : Int), vs = [.ref a, .int many] ∧ SqL K H a (row.map V.int) ∧ row.length = 13 ∧ (∀ x ∈ row, 0 ≤ x ∧ x < 64) ∧ 0 ≤ many ∧ many ≤ 8 ∧
  ∀ p H', H p = none → Ex H H' → H' p = some (.lst ((asksF row many.toNat).map V.str)) → Q (.ref p) H'
theorem row_at {row : List Int} {j : Nat} (h : j < row.length) : atI (row.map V.int) (j : Int) = some (.int (row.getD j 0)) := by
  refine atI_nat ?_
  rw [List.getElem?_map, List.getElem?_eq_getElem h, List.getD_eq_getElem?_getD, List.getElem?_eq_getElem h]
  rfl
theorem ok_asks (T : Tp K mg) : FnOk P w K mg base CX0 1 T.a__law_asks T.d__law_asks ["_law_row", "_law_many"] (sp_asks K) := by
  refine T.f__law_asks.ok sc__law_asks (fun vs H Q E h => ?_) (fun cdv A outer s H vs Q E hr h => ?_)
  · obtain ⟨a, row, many, rfl, _⟩ := h
    rfl
  · obtain ⟨a, row, many, rfl, hS, hlen, hb, h0, h1, q⟩ := h
    refine ⟨_, (pss_cons (ps_set (i := 2) sc__law_asks.nd rfl (.inr rfl) pe_str)
  (pss_cons (ps_set (i := 3) sc__law_asks.nd rfl (.inl rfl) (pe_join pe_str (pe_lc (own := [("_law_digit", 4)]) (g := gName 4) (tt := tYes) rfl sc__law_asks.nd (pi_list (pe_slice sl_list (pv 0) po_none (po_some pe_int))) (blkOk_by (N := N__law_asks) (sc := defScope s__law_asks) (by decide +kernel)) (fun _ _ _ _ _ => (pg_name (i := 4) sc__law_asks.nd rfl (.inl rfl))) (fun _ _ _ _ _ => pts_nil) (fun _ _ _ _ _ => (pe_ix (ix_seqK (K := K)) (pv 2) (pe_op op_mod (pe_callTy c_int (by rfl) T.n_int (by rfl) (pa_cons (pv 4) pa_nil)) pe_int) (fun _ _ => rfl))))))
  (pss_cons (ps_set (i := 5) sc__law_asks.nd rfl (.inl rfl) (pe_lst pa_nil))
  (pss_cons (ps_for PassesOwn.never rfl (pi_range1 rfl T.n_range (pa_cons (pv 1) pa_nil)) (pg_name (i := 6) sc__law_asks.nd rfl (.inl rfl))
  (pss_cons (ps_set (i := 7) sc__law_asks.nd rfl (.inl rfl) (pe_op opAdd (pe_op op_mod (pe_callTy c_int (by rfl) T.n_int (by rfl) (pa_cons (pe_op opAdd (pe_ix ix_seq (pv 0) pe_int (fun _ _ => rfl)) (pe_op op_mul pe_int (pv 6))) pa_nil)) pe_int) pe_int))
  (pss_one (ps_if (pt_cmpR op_eq (pe_op op_mod (pe_callTy c_int (by rfl) T.n_int (by rfl) (pa_cons (pe_ix ix_seq (pv 0) pe_int (fun _ _ => rfl)) pa_nil)) pe_int) pe_int (nomark _)) (pss_one (ps_expr (pe_bm PySem.F.plainAttrs_list PySem.F.slot_list_append PySem.F.type_list_append mt_append (pv 5) (pa_cons (pe_slice sl_str (pv 3) po_none (po_some (pv 7))) pa_nil)))) (pss_cons (ps_set (i := 7) sc__law_asks.nd rfl (.inl rfl) (pe_op opAdd (pe_op op_mod (pe_callTy c_int (by rfl) T.n_int (by rfl) (pa_cons (pe_ix ix_seq (pv 0) pe_int (fun _ _ => rfl)) pa_nil)) pe_int) pe_int))
  (pss_cons (ps_set (i := 8) sc__law_asks.nd rfl (.inl rfl) (pe_op op_mod (pe_callTy c_int (by rfl) T.n_int (by rfl) (pa_cons (pe_ix ix_seq (pv 0) pe_int (fun _ _ => rfl)) pa_nil)) (pv 7)))
  (pss_cons (ps_set (i := 9) sc__law_asks.nd rfl (.inl rfl) (pe_op opAdd (pe_op op_mul (pe_op op_mod (pe_callTy c_int (by rfl) T.n_int (by rfl) (pa_cons (pe_ix ix_seq (pv 0) pe_int (fun _ _ => rfl)) pa_nil)) pe_int) pe_int) pe_int))
  (pss_cons (ps_set (i := 10) sc__law_asks.nd rfl (.inl rfl) (pe_ix ix_seq (pv 2) (pe_op op_mod (pe_callTy c_int (by rfl) T.n_int (by rfl) (pa_cons (pe_op opAdd (pe_ix ix_seq (pv 0) pe_int (fun _ _ => rfl)) (pe_op op_mul (pv 9) (pv 6))) pa_nil)) pe_int) (fun _ _ => rfl)))
  (pss_one (ps_expr (pe_bm PySem.F.plainAttrs_list PySem.F.slot_list_append PySem.F.type_list_append mt_append (pv 5) (pa_cons (pe_op opAdd (pe_op opAdd (pe_slice sl_str (pv 3) po_none (po_some (pv 8))) (pv 10)) (pe_slice sl_str (pv 3) (po_some (pe_op opAdd (pv 8) pe_int)) (po_some (pv 7)))) pa_nil))))))))))))
  (pss_one (ps_ret (pv 5))))))), ?_⟩
    walk_at "g"
    refine ⟨⟨_, rfl⟩, ?_⟩
    walk_at "g"
    refine sl_l hS fun l8 hl8 => ?_
    rw [show ((8 : Int)) = ((8 : Nat) : Int) from rfl, cutV_to, ← List.map_take]
    refine lcl_go (xs := (row.take 8).map V.int) (fun _ => true) letV (.inl (.inl upd_same)) ?_ (fun _ => rfl) ?_ ?_ ?_
    · rw [List.length_map, List.length_take]; omega
    · exact yes_t
    · intro x hx _ H1 e1 R k
      obtain ⟨d, _, rfl⟩ := List.mem_map.mp hx
      walk_at "g"
      exact ix_s (c := letC d) (by decide) (ltrs_ix d) (k H1 (Ex.refl _))
    · intro D H1 hD e1 hl1
      rw [let_map] at hl1
      refine ⟨_, D, (wordL row).map fun c => ⟨#[c]⟩, rfl, rfl, .inl (.inl (.inl hl1)), ?_, ?_⟩
      · rw [sum_signs, List.length_map, word_len (by omega)]
        decide
      rw [join_signs]
      have e2 : Ex H H1 := (Ex.new hl8).trans e1
      walk_at "g"
      refine ⟨sz_of (by show 0 ≤ 100000; decide), fun l hl => ?_⟩
      have e3 : Ex H (upd H1 l (.lst [])) := e2.trans (Ex.new hl)
      have l3 : (upd H1 l (.lst [])) l = some (.lst []) := upd_same
      have hl0 : H l = none := fresh_back e2 hl
      generalize (upd H1 l (.lst [])) = H3 at e3 l3
      walk_at "g"
      refine lr1_go (fun i σ' H' => ∃ y6 y7 y8 y9 y10, σ' = [some (.ref a), some (.int many), some (.str (Str.ofString "abcdefghijklmnopqrstuvwxyz")), some (.str ⟨(wordL row).toArray⟩), none, some (.ref l), y6, y7, y8, y9, y10] ∧ Ex H H' ∧ H' l = some (.lst ((asksF row i).map V.str)))
        ⟨_, _, _, _, _, rfl, e3, l3⟩ ⟨h0, by omega⟩ ?_ ?_
      · rintro i σ' H' hi ⟨y6, y7, y8, y9, y10, rfl, e4, l4⟩
        walk_at "g"
        refine ix_l (ex_l e4 hS) (row_at (j := 9) (by omega)) ?_
        walk_at "g"
        refine ix_l (ex_l e4 hS) (row_at (j := 8) (by omega)) ?_
        walk_at "g"
        have ln := asks_len row i
        have lz : ((asksF row i).map V.str).length < sizeLine := by rw [List.length_map, ln]; exact sz_lt (by omega)
        have wz : (⟨(wordL row).toArray⟩ : Str).length ≤ sizeLine := by
          show (wordL row).toArray.size ≤ _
          rw [List.size_toArray, word_len (by omega)]
          decide
        refine ite_b (fun hc => ?_) (fun hc => ?_)
        · have z : row.getD 8 0 % 2 = 0 := V.int.inj (of_decide_eq_true hc)
          have ea : askL row i = (wordL row).take ((row.getD 9 0 + 3 * i) % 8 + 1).toNat := by unfold askL; rw [if_pos z]
          refine r_drop (r_app rfl l4 ?_)
          walk_at "g"
          refine sl_s wz ?_
          rw [show ((8 : Nat) : Int) = 8 from rfl, cutS_toI _ (by omega), ← ea]
          refine app_l l4 lz ?_
          walk_at "g"
          exact ⟨_, _, _, _, _, rfl, ex_upd e4 hl0, by rw [upd_same, asks_snoc]⟩
        · have z : ¬ row.getD 8 0 % 2 = 0 := fun q0 => of_decide_eq_false hc (congrArg V.int q0)
          walk_at "g"
          refine ix_l (ex_l e4 hS) (row_at (j := 9) (by omega)) ?_
          walk_at "g"
          refine ix_l (ex_l e4 hS) (row_at (j := 10) (by omega)) ?_
          walk_at "g"
          refine ⟨_, _, rfl, rfl, show (0 : Int) < _ by omega, ?_⟩
          walk_at "g"
          refine ix_l (ex_l e4 hS) (row_at (j := 12) (by omega)) ?_
          walk_at "g"
          refine ix_l (ex_l e4 hS) (row_at (j := 11) (by omega)) ?_
          walk_at "g"
          refine r_I (.inr ⟨by omega, by omega⟩) ?_
          walk_at "g"
          refine ix_s (c := letC (row.getD 11 0 + (row.getD 12 0 % 6 * 2 + 1) * i)) (by decide) (ltrs_ix _) ?_
          walk_at "g"
          refine r_drop (r_app rfl l4 ?_)
          walk_at "g"
          refine sl_s wz ?_
          have p0 : 0 ≤ row.getD 10 0 % (row.getD 9 0 % 8 + 1) := by
            have : row.getD 9 0 % 8 + 1 ≠ 0 := by omega
            exact Int.emod_nonneg _ this
          have p1 : row.getD 10 0 % (row.getD 9 0 % 8 + 1) < row.getD 9 0 % 8 + 1 := Int.emod_lt_of_pos _ (by omega)
          rw [show ((8 : Nat) : Int) = 8 from rfl]
          show tVar 10 _ _ _
          rw [cutS_toI _ p0]
          walk_at "g"
          refine add_str ?_ ?_
          · show (List.toArray _).size + 1 ≤ _
            rw [List.size_toArray, List.length_take, word_len (by omega)]
            have := @sz_of 100 (by decide)
            omega
          walk_at "g"
          refine sl_s wz ?_
          rw [cutS_midI _ (by omega) (by omega), show (⟨#[letC (row.getD 11 0 + (row.getD 12 0 % 6 * 2 + 1) * ↑i)]⟩ : Str) = ⟨[letC (row.getD 11 0 + (row.getD 12 0 % 6 * 2 + 1) * ↑i)].toArray⟩ from rfl, app_codes]
          refine add_str ?_ ?_
          · show (List.toArray _).size + (List.toArray _).size ≤ _
            rw [List.size_toArray, List.size_toArray]
            simp only [List.length_append, List.length_take, List.length_drop, List.length_cons, List.length_nil]
            have := @sz_of 100 (by decide)
            have := word_len (row := row) (by omega)
            omega
          rw [app_codes]
          walk_at "g"
          refine app_l l4 lz ?_
          walk_at "g"
          refine ⟨_, _, _, _, _, rfl, ex_upd e4 hl0, ?_⟩
          rw [upd_same, asks_snoc]
          have ea : askL row i = (wordL row).take (row.getD 10 0 % (row.getD 9 0 % 8 + 1)).toNat ++ [letC (row.getD 11 0 + (row.getD 12 0 % 6 * 2 + 1) * i)] ++
              ((wordL row).take (row.getD 9 0 % 8 + 1).toNat).drop ((row.getD 10 0 % (row.getD 9 0 % 8 + 1)).toNat + 1) := by unfold askL; rw [if_neg z]
          rw [ea, show (row.getD 10 0 % (row.getD 9 0 % 8 + 1) + 1).toNat = (row.getD 10 0 % (row.getD 9 0 % 8 + 1)).toNat + 1 by omega]
      · rintro σ' H' ⟨y6, y7, y8, y9, y10, rfl, e4, l4⟩
        walk_at "g"
        exact q l H' hl0 e4 l4
end
end K12

set_option Elab.async false
set_option linter.all false
set_option maxRecDepth 100000
namespace K12
open PySem PySem.Spec PyProof.Rows L2 Evl AE
/-! ### data of rows -/
def stD (s : StepD) : PyData := .tuple ((stepV s).map scD)
theorem ints_dsc (l : List Int) : (l.map V.int).map scD = l.map PyData.int := by rw [List.map_map]; rfl
theorem ints_lay : ∀ l : List Int, PyData.canLayAll0 (l.map PyData.int) = true
  | [] => rfl
  | _ :: r => by simp [PyData.canLayAll0, PyData.canLay0, ints_lay r]
theorem ints_dep : ∀ l : List Int, PyData.depthAll (l.map PyData.int) = 0
  | [] => rfl
  | _ :: r => by simp [PyData.depthAll, PyData.depth, ints_dep r]
theorem ints_shaped (l : List Int) : SeqAt.shaped (.list (l.map PyData.int)) = true := by
  simp [SeqAt.shaped, PyData.canLay0, PyData.depth, ints_lay, ints_dep]
theorem ints_eqv : ∀ l m : List Int, PyData.eqvAll (l.map PyData.int) (m.map PyData.int) = decide (l = m)
  | [], [] => by simp [PyData.eqvAll]
  | [], _ :: _ => by simp [PyData.eqvAll]
  | _ :: _, [] => by simp [PyData.eqvAll]
  | a :: r, b :: t => by
    simp only [List.map_cons, PyData.eqvAll, PyData.eqv, ints_eqv r t]
    by_cases h : a = b <;> by_cases h' : r = t <;> simp [h, h']
theorem stD_lay {s : StepD} (h : PyData.strOk s.2.1 = true) : (stD s).canLay0 = true := by
  simp [stD, stepV, scD, PyData.canLay0, PyData.canLayAll0, h]
theorem stD_dep (s : StepD) : (stD s).depth = 1 := by
  simp [stD, stepV, scD, PyData.depth, PyData.depthAll]
theorem stDs_lay : ∀ l : List StepD, (∀ s ∈ l, PyData.strOk s.2.1 = true) → PyData.canLayAll0 (l.map stD) = true
  | [], _ => rfl
  | s :: r, h => by simp [PyData.canLayAll0, stD_lay (h s (List.mem_cons_self ..)), stDs_lay r fun x hx => h x (List.mem_cons_of_mem _ hx)]
theorem stDs_dep : ∀ l : List StepD, PyData.depthAll (l.map stD) ≤ 1
  | [] => by simp [PyData.depthAll]
  | s :: r => by
    have := stDs_dep r
    simp only [List.map_cons, PyData.depthAll, stD_dep s]
    omega
theorem stD_shaped {s : StepD} (h : PyData.strOk s.2.1 = true) : SeqAt.shaped (stD s) = true := by
  simp [SeqAt.shaped, stD_lay h, stD_dep]
theorem stDs_shaped {l : List StepD} (h : ∀ s ∈ l, PyData.strOk s.2.1 = true) : SeqAt.shaped (.list (l.map stD)) = true := by
  have h1 := stDs_dep l
  have h2 : PyData.depth (.list (l.map stD)) ≤ 64 := by
    simp only [PyData.depth]
    omega
  show (PyData.canLay0 (.list (l.map stD)) && decide (PyData.depth (.list (l.map stD)) ≤ 64)) = true
  rw [Bool.and_eq_true]
  exact ⟨by simp only [PyData.canLay0]; exact stDs_lay l h, decide_eq_true h2⟩
theorem stD_eqv (a b : StepD) : PyData.eqv (stD a) (stD b) = decide (a = b) := by
  obtain ⟨a1, a2, a3⟩ := a
  obtain ⟨b1, b2, b3⟩ := b
  simp only [stD, stepV, scD, List.map_cons, List.map_nil, PyData.eqv, PyData.eqvAll, Prod.mk.injEq]
  by_cases h : a1 = b1 <;> by_cases h2 : a2 = b2 <;> by_cases h3 : a3 = b3 <;> simp [h, h2, h3]
theorem stD_any (l : List StepD) (a : StepD) : ((l.map stD).any fun z => z.eqv (stD a)) = decide (a ∈ l) := by
  rw [List.any_map, Bool.eq_iff_iff, List.any_eq_true, decide_eq_true_iff]
  constructor
  · rintro ⟨y, hy, e⟩
    have e' : PyData.eqv (stD y) (stD a) = true := e
    rw [stD_eqv, decide_eq_true_iff] at e'
    exact e' ▸ hy
  · intro h
    refine ⟨a, h, ?_⟩
    show PyData.eqv (stD a) (stD a) = true
    rw [stD_eqv, decide_eq_true rfl]
theorem rows_dp {K : PySem.W.Frag} {H : Hp} {a : Addr} {us : List V} {rows : List StepD} (h : SqL K H a us) (t : Tups H us (rows.map stepV)) : Dp K H (.ref a) (.list (rows.map stD)) := by
  have d := t.dp (K := K) (fun x hx => by obtain ⟨s, _, rfl⟩ := List.mem_map.mp hx; rfl)
  rw [List.map_map] at d
  exact .lst h d
theorem ints_dp {K : PySem.W.Frag} {H : Hp} {a : Addr} {l : List Int} (h : SqL K H a (l.map V.int)) : Dp K H (.ref a) (.list (l.map PyData.int)) := by
  have d : DpAll K H (l.map V.int) ((l.map V.int).map scD) := dpa_sc (by rw [List.all_map, List.all_eq_true]; exact fun _ _ => rfl)
  rw [ints_dsc] at d
  exact .lst h d
end K12

set_option Elab.async false
set_option linter.all false
set_option maxRecDepth 100000
namespace K12
open PySem PySem.Spec PyProof.Rows L2 Evl AE
local macro_rules | `(tactic| walk_at "c") => `(tactic| first | exact ⟨by decide, by decide⟩ | exact .inr ⟨by decide, by decide⟩ | exact .inl ⟨by decide, by decide⟩ | exact ⟨by decide, by decide, by decide⟩ | (show (0 : Int) < _; decide))
local macro_rules | `(tactic| walk_at "s") => `(tactic| first
  | (with_reducible refine r_var rfl ?_) | (with_reducible refine r_c ?_) | (with_reducible refine r_op ?_) | (with_reducible refine r_un ?_) | (with_reducible refine r_I0 ?_) | (with_reducible refine r_U ?_)
  | (with_reducible refine r_eq rfl ?_) | (with_reducible refine r_ne rfl ?_) | (with_reducible refine r_chain ?_) | (with_reducible refine r_test ?_) | (with_reducible refine r_tB ?_)
  | (with_reducible refine r_bl ?_) | (with_reducible refine r_and ?_) | (with_reducible refine r_or ?_) | (with_reducible refine r_not ?_) | (with_reducible refine r_nil ?_) | (with_reducible refine r_cons ?_)
  | (with_reducible refine r_tup ?_) | (with_reducible refine r_lst ?_) | (with_reducible refine r_cb ?_) | (with_reducible refine r_call ?_) | (with_reducible refine r_seq ?_) | (with_reducible refine r_set ?_)
  | (with_reducible refine r_drop ?_) | (with_reducible refine r_ret ?_) | (with_reducible refine r_next ?_) | (with_reducible refine r_if ?_) | (with_reducible refine r_sl ?_) | (with_reducible refine r_nop ?_) | (with_reducible refine r_prt ?_) | (with_reducible refine r_some ?_)
  | (with_reducible refine add_int ?_) | (with_reducible refine int_i ?_) | (with_reducible refine r_forR1 ?_) | (with_reducible refine r_forL ?_) | (with_reducible refine r_andV ?_) | (with_reducible refine r_orV ?_) | (with_reducible refine r_notV ?_) | (with_reducible refine r_ifE ?_) | (with_reducible refine r_lcL ?_) | (with_reducible refine r_fld ?_) | (with_reducible refine r_get ?_) | (with_reducible refine r_din ?_) | (with_reducible refine r_dget2 ?_) | ((with_reducible refine r_I ?_ ?_); (walk_at "c")))
local macro_rules | `(tactic| walk_at "g") => `(tactic| repeat walk_at "s")
section
variable {P : Program} {w : World} {K : PySem.W.Frag} {mg : Str → Option Value} {base : Heap}
/-! ### steps of the law -/
def pow4 : List Int := [1, 2, 4, 8]
def hitF (single : Bool) (n d : Int) (e : Nat) : Bool := if single then decide (d % (n + 1) = e + 1) else decide (d / pow4.getD e 0 % 2 = 1)
def innF (st : Int) (x : Str) (single : Bool) (n d : Int) (k : Nat) : List StepD := ((List.range k).filter (hitF single n d)).map fun (e : Nat) => (st, x, (e : Int))
def digF (row : List Int) (many : Nat) (i j : Nat) : Int := row.getD ((i * many + j) % row.length) 0
def midF (row : List Int) (asks : List Str) (single : Bool) (n : Int) (i : Nat) (j : Nat) : List StepD := (List.range j).flatMap fun t => innF i (asks.getD t Str.empty) single n (digF row asks.length i t) n.toNat
def outF (row : List Int) (asks : List Str) (single : Bool) (n : Int) (i : Nat) : List StepD := (List.range i).flatMap fun t => midF row asks single n t asks.length
def stepsF (row : List Int) (asks : List Str) (single : Bool) (n : Int) : List StepD := outF row asks single n n.toNat
theorem inn_snoc (st : Int) (x : Str) (single : Bool) (n d : Int) (k : Nat) : innF st x single n d (k + 1) = innF st x single n d k ++ if hitF single n d k then [(st, x, (k : Int))] else [] := by
  unfold innF
  rw [List.range_succ, List.filter_append, List.map_append]
  congr 1
  by_cases h : hitF single n d k = true
  · rw [if_pos h, List.filter_cons_of_pos h]
    rfl
  · rw [if_neg h, List.filter_cons_of_neg h]
    rfl
theorem mid_snoc (row : List Int) (asks : List Str) (single : Bool) (n : Int) (i j : Nat) : midF row asks single n i (j + 1) = midF row asks single n i j ++ innF i (asks.getD j Str.empty) single n (digF row asks.length i j) n.toNat := by
  unfold midF
  rw [List.range_succ, List.flatMap_append]
  simp
theorem out_snoc (row : List Int) (asks : List Str) (single : Bool) (n : Int) (i : Nat) : outF row asks single n (i + 1) = outF row asks single n i ++ midF row asks single n i asks.length := by
  unfold outF
  rw [List.range_succ, List.flatMap_append]
  simp
theorem pow_at {k : Nat} (h : k < 4) : atI (pow4.map V.int) (k : Int) = some (.int (pow4.getD k 0)) := row_at (row := pow4) h
theorem strs_at {xs : List Str} {j : Nat} (h : j < xs.length) : atI (xs.map V.str) (j : Int) = some (.str (xs.getD j Str.empty)) := by
  refine atI_nat ?_
  rw [List.getElem?_map, List.getElem?_eq_getElem h, List.getD_eq_getElem?_getD, List.getElem?_eq_getElem h]
  rfl
theorem pow_ne {k : Nat} (h : k < 4) : 0 < pow4.getD k 0 ∧ pow4.getD k 0 ≤ 8 := by
  match k, h with
  | 0, _ => decide
  | 1, _ => decide
  | 2, _ => decide
  | 3, _ => decide
def sp_lsteps (K : PySem.W.Frag) : Sp := fun vs H Q _ => ∃ (a b : Addr) (row : List Int) (asks : List Str) (single : Bool) (n : Int), vs = [.ref a, .int n, .ref b, .bl single] ∧ SqL K H a (row.map V.int) ∧ row.length = 16 ∧
  (∀ x ∈ row, 0 ≤ x ∧ x < 64) ∧ 1 ≤ n ∧ n ≤ 4 ∧ SqL K H b (asks.map V.str) ∧ asks.length ≤ 4 ∧
  ∀ p us H', H p = none → Ex H H' → H' p = some (.lst us) → Tups H' us ((stepsF row asks single n).map stepV) → Q (.ref p) H'
/-! ### marks of the law -/
def mkB (d : Int) (k : Nat) : Bool := decide (48 ≤ d) || decide (d / pow4.getD k 0 % 2 = 1)
def mkV (d : Int) : V → Bool
  | .int k => mkB d k.toNat
  | _ => false
def lmarksF (d n : Int) : List Int := ((List.range n.toNat).filter (mkB d)).map fun (k : Nat) => (k : Int)
theorem marks_ints (d : Int) (n : Nat) : ((intsV n).filter (mkV d)).map (fun v => v) = (((List.range n).filter (mkB d)).map fun (k : Nat) => (k : Int)).map V.int := by
  rw [List.map_id']
  unfold intsV
  rw [List.filter_map, List.map_map]
  rfl
def sp_lmarks (K : PySem.W.Frag) : Sp := fun vs H Q _ => ∃ (d n : Int), vs = [.int d, .int n] ∧ 1 ≤ n ∧ n ≤ 4 ∧
  ∀ p H', H p = none → Ex H H' → H' p = some (.lst ((lmarksF d n).map V.int)) → Q (.ref p) H'
theorem ok_lmarks (T : Tp K mg) : FnOk P w K mg base CX0 1 T.a__law_marks T.d__law_marks ["_law_digit", "_law_size"] (sp_lmarks K) := by
  refine T.f__law_marks.ok sc__law_marks (fun vs H Q E h => ?_) (fun cdv A outer s H vs Q E hr h => ?_)
  · obtain ⟨d, n, rfl, _⟩ := h
    rfl
  · obtain ⟨d, n, rfl, n1, n4, q⟩ := h
    refine ⟨_, (pss_one (ps_ret (pe_lc (own := [("_law_state", 2)]) (g := gName 2) rfl sc__law_marks.nd (pi_range1 rfl T.n_range (pa_cons (pv 1) pa_nil)) (blkOk_by (N := N__law_marks) (sc := defScope s__law_marks) (by decide +kernel)) (fun _ _ _ _ _ => (pg_name (i := 2) sc__law_marks.nd rfl (.inl rfl))) (fun _ _ _ _ _ => (pts_one (PW.pt (pw_or (pt_cmpR op_ge (pv 0) pe_int (nomark _)) (pw_or1 (pt_cmpR op_eq (pe_op op_mod (pe_callTy c_int (by rfl) T.n_int (by rfl) (pa_cons (pe_op op_fdiv (pv 0) (pe_ix (ix_seqK (K := K)) (pe_lst (pa_cons pe_int (pa_cons pe_int (pa_cons pe_int (pa_cons pe_int pa_nil))))) (pv 2) (fun _ _ => rfl))) pa_nil)) pe_int) pe_int (nomark _))))))) (fun _ _ _ _ _ => (pv 2))))), ?_⟩
    walk_at "g"
    refine lc_r (n := n) (mkV d) (fun v => v) ?_ ⟨by omega, by omega⟩ (fun _ => rfl) ?_ ?_ ?_
    · intro R r
      walk_at "g"
      exact r
    · intro x hx H1 e1 R r
      unfold intsV at hx
      obtain ⟨k, hk, rfl⟩ := List.mem_map.mp hx
      have hk4 : k < 4 := by have := List.mem_range.mp hk; omega
      have r' : ∀ H2, Ex H1 H2 → R (mkB d k) H2 := r
      walk_at "g"
      refine ite_b (fun hc => ?_) (fun hc => ?_)
      · have e : mkB d k = true := by unfold mkB; rw [hc, Bool.true_or]
        rw [e] at r'
        exact r' H1 (Ex.refl _)
      walk_at "g"
      refine ⟨sz_of (by show 4 ≤ 100000; decide), fun p4 hp4 => ?_⟩
      have e5 : Ex H1 (upd H1 p4 (.lst [.int 1, .int 2, .int 4, .int 8])) := Ex.new hp4
      have l5 : (upd H1 p4 (.lst [.int 1, .int 2, .int 4, .int 8])) p4 = some (.lst (pow4.map V.int)) := upd_same
      generalize (upd H1 p4 (.lst [.int 1, .int 2, .int 4, .int 8])) = H5 at e5 l5
      walk_at "g"
      refine ix_l (.inl (.inl l5)) (pow_at hk4) ?_
      refine r_I (C := CDiv) ⟨by have := pow_ne hk4; omega, by have := pow_ne hk4; omega⟩ ?_
      walk_at "g"
      have e : mkB d k = decide (V.int (d / pow4.getD k 0 % 2) = V.int 1) := by
        unfold mkB
        rw [hc, Bool.false_or]
        congr 1
        exact propext ⟨congrArg V.int, V.int.inj⟩
      have r2 := r' _ e5
      rw [e] at r2
      exact r2
    · intro x hx _ H1 e1 R r
      walk_at "g"
      exact r H1 (Ex.refl _)
    · intro D H1 hD e1 h1
      rw [marks_ints] at h1
      exact q D H1 hD e1 h1
/-! ### an item -/
theorem hu64_of {A : Around} {k : Nat} (hr : Room k A) : A.units + 64 < cLine := by
  have := hr.un
  omega
theorem hu65_of {A : Around} {k : Nat} (hr : Room k A) : A.units + 65 < cLine := by
  have := hr.un
  omega
end
end K12

set_option Elab.async false
set_option linter.all false
set_option maxRecDepth 100000
namespace K12
open PySem PySem.Spec PyProof.Rows L2 Evl AE
local macro_rules | `(tactic| walk_at "c") => `(tactic| first | exact ⟨by decide, by decide⟩ | exact .inr ⟨by decide, by decide⟩ | exact .inl ⟨by decide, by decide⟩ | exact ⟨by decide, by decide, by decide⟩ | (show (0 : Int) < _; decide))
local macro_rules | `(tactic| walk_at "s") => `(tactic| first
  | (with_reducible refine r_var rfl ?_) | (with_reducible refine r_c ?_) | (with_reducible refine r_op ?_) | (with_reducible refine r_un ?_) | (with_reducible refine r_I0 ?_) | (with_reducible refine r_U ?_)
  | (with_reducible refine r_eq rfl ?_) | (with_reducible refine r_ne rfl ?_) | (with_reducible refine r_chain ?_) | (with_reducible refine r_test ?_) | (with_reducible refine r_tB ?_)
  | (with_reducible refine r_bl ?_) | (with_reducible refine r_and ?_) | (with_reducible refine r_or ?_) | (with_reducible refine r_not ?_) | (with_reducible refine r_nil ?_) | (with_reducible refine r_cons ?_)
  | (with_reducible refine r_tup ?_) | (with_reducible refine r_lst ?_) | (with_reducible refine r_cb ?_) | (with_reducible refine r_call ?_) | (with_reducible refine r_seq ?_) | (with_reducible refine r_set ?_)
  | (with_reducible refine r_drop ?_) | (with_reducible refine r_ret ?_) | (with_reducible refine r_next ?_) | (with_reducible refine r_if ?_) | (with_reducible refine r_sl ?_) | (with_reducible refine r_nop ?_) | (with_reducible refine r_prt ?_) | (with_reducible refine r_some ?_)
  | (with_reducible refine add_int ?_) | (with_reducible refine int_i ?_) | (with_reducible refine r_forR1 ?_) | (with_reducible refine r_forL ?_) | ((with_reducible refine r_I ?_ ?_); (walk_at "c")))
local macro_rules | `(tactic| walk_at "g") => `(tactic| repeat walk_at "s")
section
variable {P : Program} {w : World} {K : PySem.W.Frag} {mg : Str → Option Value} {base : Heap}
def cellF (ns : List Int) (k : Int) : Int := ns.getD k.toNat 0
def sp_cell (K : PySem.W.Frag) : Sp := fun vs H Q _ => ∃ (a : Addr) (ns : List Int) (k : Int), vs = [.ref a, .int k] ∧ SqL K H a (ns.map V.int) ∧ 0 ≤ k ∧ Q (.int (cellF ns k)) H
theorem ok_cell (T : Tp K mg) : FnOk P w K mg base CX0 1 T.a__law_cell T.d__law_cell ["_law_script", "_law_k"] (sp_cell K) := by
  refine T.f__law_cell.ok sc__law_cell (fun vs H Q E h => ?_) (fun cdv A outer s H vs Q E hr h => ?_)
  · obtain ⟨a, ns, k, rfl, _⟩ := h
    rfl
  · obtain ⟨a, ns, k, rfl, hS, hk, q⟩ := h
    refine ⟨_, (pss_cons (ps_if (pt_cmpR op_lt (pv 1) (pe_callB c_len (by rfl) T.n_len (by rfl) (pa_cons (pv 0) pa_nil)) (nomark _)) (pss_one (ps_ret (pe_ix ix_seq (pv 0) (pv 1) (fun _ _ => rfl)))) pss_nil)
      (pss_one (ps_ret pe_int))), ?_⟩
    walk_at "g"
    refine len_l hS ?_
    walk_at "g"
    refine ite_b (fun hb => ?_) (fun hb => ?_)
    · walk_at "g"
      have hb' := of_decide_eq_true hb
      rw [List.length_map] at hb'
      have hk2 : k.toNat < ns.length := by omega
      refine ix_l (v := .int (cellF ns k)) hS ?_ q
      refine at_of (j := k.toNat) (by omega) ?_
      rw [List.getElem?_map, List.getElem?_eq_getElem hk2]
      unfold cellF
      rw [List.getD_eq_getElem?_getD, List.getElem?_eq_getElem hk2]
      rfl
    · walk_at "g"
      have hb' := of_decide_eq_false hb
      rw [List.length_map] at hb'
      have e : cellF ns k = 0 := by
        unfold cellF
        rw [List.getD_eq_getElem?_getD, List.getElem?_eq_none (by omega)]
        rfl
      rw [e] at q
      exact q
def restF : Nat → Int → List Int
  | 0, _ => []
  | n + 1, r => r % 64 :: restF n (r / 64)
def seedF : Nat → Int → Int → List Int
  | 0, _, _ => []
  | n + 1, t, s => (s * 48271 + t + 11) % 2147483647 / 65536 % 64 :: seedF n (t + 1) ((s * 48271 + t + 11) % 2147483647)
def drawsF (ns : List Int) (k many : Int) : List Int :=
  if 10 ^ 18 ≤ cellF ns k then restF many.toNat (cellF ns k - 10 ^ 18)
  else seedF many.toNat 0 ((cellF ns k * 7919 + k * 104729 + 12345) % 2147483647)
theorem restF_len : ∀ n r, (restF n r).length = n
  | 0, _ => rfl
  | n + 1, r => by show (restF n (r / 64)).length + 1 = n + 1; rw [restF_len n]
theorem seedF_len : ∀ n t s, (seedF n t s).length = n
  | 0, _, _ => rfl
  | n + 1, t, s => by show (seedF n _ _).length + 1 = n + 1; rw [seedF_len n]
theorem restF_bd : ∀ n r, ∀ x ∈ restF n r, 0 ≤ x ∧ x < 64
  | 0, _, x, h => by cases h
  | n + 1, r, x, h => by
    rcases List.mem_cons.mp h with rfl | h
    · omega
    · exact restF_bd n _ x h
theorem seedF_bd : ∀ n t s, ∀ x ∈ seedF n t s, 0 ≤ x ∧ x < 64
  | 0, _, _, x, h => by cases h
  | n + 1, t, s, x, h => by
    rcases List.mem_cons.mp h with rfl | h
    · omega
    · exact seedF_bd n _ _ x h
/-- the row after i turns, and the rest of it -/
def restN : Nat → Int → Int
  | 0, r => r
  | n + 1, r => restN n (r / 64)
theorem restF_snoc : ∀ n r, restF (n + 1) r = restF n r ++ [restN n r % 64]
  | 0, _ => rfl
  | n + 1, r => by
    show r % 64 :: restF (n + 1) (r / 64) = r % 64 :: (restF n (r / 64) ++ [restN n (r / 64) % 64])
    rw [restF_snoc n]
theorem restN_snoc : ∀ n r, restN (n + 1) r = restN n r / 64
  | 0, _ => rfl
  | n + 1, r => restN_snoc n (r / 64)
def seedN : Nat → Int → Int → Int
  | 0, _, s => s
  | n + 1, t, s => seedN n (t + 1) ((s * 48271 + t + 11) % 2147483647)
theorem seedN_snoc : ∀ (n : Nat) t s, seedN (n + 1) t s = (seedN n t s * 48271 + (t + n) + 11) % 2147483647
  | 0, t, s => by show (s * 48271 + t + 11) % 2147483647 = (s * 48271 + (t + (0 : Nat)) + 11) % 2147483647; congr 1; omega
  | n + 1, t, s => by
    show seedN (n + 1) (t + 1) _ = (seedN n (t + 1) _ * 48271 + (t + ((n + 1 : Nat) : Int)) + 11) % 2147483647
    rw [seedN_snoc n]
    congr 1
    omega
theorem seedF_snoc : ∀ (n : Nat) t s, seedF (n + 1) t s = seedF n t s ++ [(seedN n t s * 48271 + (t + n) + 11) % 2147483647 / 65536 % 64]
  | 0, t, s => by show [(s * 48271 + t + 11) % 2147483647 / 65536 % 64] = [(s * 48271 + (t + (0 : Nat)) + 11) % 2147483647 / 65536 % 64]; rw [show t + ((0 : Nat) : Int) = t by omega]
  | n + 1, t, s => by
    show _ :: seedF (n + 1) (t + 1) _ = _ :: (seedF n (t + 1) _ ++ [(seedN n (t + 1) _ * 48271 + (t + ((n + 1 : Nat) : Int)) + 11) % 2147483647 / 65536 % 64])
    rw [seedF_snoc n]
    congr 6
    omega
theorem draws_len (ns : List Int) (k many : Int) : (drawsF ns k many).length = many.toNat := by
  unfold drawsF
  split
  · exact restF_len _ _
  · exact seedF_len _ _ _
theorem draws_bd (ns : List Int) (k many : Int) : ∀ x ∈ drawsF ns k many, 0 ≤ x ∧ x < 64 := by
  unfold drawsF
  split
  · exact restF_bd _ _
  · exact seedF_bd _ _ _
def sp_draws (K : PySem.W.Frag) : Sp := fun vs H Q _ => ∃ (a : Addr) (ns : List Int) (k many : Int), vs = [.ref a, .int k, .int many] ∧ SqL K H a (ns.map V.int) ∧ 0 ≤ k ∧ 0 ≤ many ∧ many ≤ 1000 ∧
  ∀ p H', H p = none → Ex H H' → H' p = some (.lst ((drawsF ns k many).map V.int)) → Q (.ref p) H'
theorem ok_draws (T : Tp K mg) : FnOk P w K mg base CX0 2 T.a__law_draws T.d__law_draws ["_law_script", "_law_k", "_law_many"] (sp_draws K) := by
  have G__law_cell : FnOk P w K mg base CX0 1 T.a__law_cell T.d__law_cell ["_law_script", "_law_k"] (sp_cell K) := ok_cell T
  refine T.f__law_draws.ok sc__law_draws (fun vs H Q E h => ?_) (fun cdv A outer s H vs Q E hr h => ?_)
  · obtain ⟨a, ns, k, many, rfl, _⟩ := h
    rfl
  · obtain ⟨a, ns, k, many, rfl, hS, hk, hm, hm2, q⟩ := h
    refine ⟨_, (pss_cons (ps_set (i := 3) sc__law_draws.nd rfl (.inl rfl) (pe_call G__law_cell (hr.mono (by decide)) (by rfl) T.g__law_cell T.f__law_cell.kp T.b__law_cell .nil pass0 (pa_cons (pv 0) (pa_cons (pv 1) pa_nil))))
  (pss_cons (ps_set (i := 4) sc__law_draws.nd rfl (.inl rfl) (pe_lst pa_nil))
  (pss_cons (ps_if (pt_cmpR op_ge (pv 3) (pe_op op_pow pe_int pe_int) (nomark _)) (pss_cons (ps_set (i := 5) sc__law_draws.nd rfl (.inl rfl) (pe_op op_sub (pv 3) (pe_op op_pow pe_int pe_int)))
  (pss_cons (ps_for PassesOwn.never rfl (pi_range1 rfl T.n_range (pa_cons (pv 2) pa_nil)) (pg_name (i := 6) sc__law_draws.nd rfl (.inl rfl))
  (pss_cons (ps_expr (pe_bm PySem.F.plainAttrs_list PySem.F.slot_list_append PySem.F.type_list_append mt_append (pv 4) (pa_cons (pe_op op_mod (pe_callTy c_int (by rfl) T.n_int (by rfl) (pa_cons (pv 5) pa_nil)) pe_int) pa_nil)))
  (pss_one (ps_set (i := 5) sc__law_draws.nd rfl (.inl rfl) (pe_op op_fdiv (pv 5) pe_int)))))
  (pss_one (ps_ret (pv 4))))) pss_nil)
  (pss_cons (ps_set (i := 7) sc__law_draws.nd rfl (.inl rfl) (pe_op op_mod (pe_callTy c_int (by rfl) T.n_int (by rfl) (pa_cons (pe_op opAdd (pe_op opAdd (pe_op op_mul (pv 3) pe_int) (pe_op op_mul (pv 1) pe_int)) pe_int) pa_nil)) pe_int))
  (pss_cons (ps_for PassesOwn.never rfl (pi_range1 rfl T.n_range (pa_cons (pv 2) pa_nil)) (pg_name (i := 6) sc__law_draws.nd rfl (.inl rfl))
  (pss_cons (ps_set (i := 7) sc__law_draws.nd rfl (.inl rfl) (pe_op op_mod (pe_callTy c_int (by rfl) T.n_int (by rfl) (pa_cons (pe_op opAdd (pe_op opAdd (pe_op op_mul (pv 7) pe_int) (pv 6)) pe_int) pa_nil)) pe_int))
  (pss_one (ps_expr (pe_bm PySem.F.plainAttrs_list PySem.F.slot_list_append PySem.F.type_list_append mt_append (pv 4) (pa_cons (pe_op op_mod (pe_callTy c_int (by rfl) T.n_int (by rfl) (pa_cons (pe_op op_fdiv (pv 7) pe_int) pa_nil)) pe_int) pa_nil))))))
  (pss_one (ps_ret (pv 4)))))))), ?_⟩
    walk_at "g"
    refine ⟨a, ns, k, rfl, hS, hk, ?_⟩
    walk_at "g"
    refine ⟨by decide, fun l hl => ?_⟩
    have e1 : Ex H (upd H l (.lst [])) := Ex.new hl
    have l1 : (upd H l (.lst [])) l = some (.lst []) := upd_same
    generalize (upd H l (.lst [])) = H1 at e1 l1
    walk_at "g"
    refine ite_b (fun hb => ?_) (fun hb => ?_)
    · have hb' := of_decide_eq_true hb
      walk_at "g"
      refine lr1_go (fun i σ' H' => ∃ y, σ' = [some (.ref a), some (.int k), some (.int many), some (.int (cellF ns k)), some (.ref l), some (.int (restN i (cellF ns k - 10 ^ 18))), y, none] ∧ Ex H H' ∧ H' l = some (.lst ((restF i (cellF ns k - 10 ^ 18)).map V.int)))
        ⟨none, rfl, e1, l1⟩ ⟨hm, by omega⟩ ?_ ?_
      · rintro i σ' H' hi ⟨y, rfl, e2, l2⟩
        walk_at "g"
        refine r_app rfl l2 ?_
        walk_at "g"
        refine app_l l2 (by rw [List.length_map, restF_len]; exact sz_lt (by omega)) ?_
        walk_at "g"
        refine ⟨some (.int i), ?_, ex_upd e2 hl, ?_⟩
        · rw [restN_snoc]
          rfl
        · rw [upd_same, restF_snoc, List.map_append]
          rfl
      · rintro σ' H' ⟨y, rfl, e2, l2⟩
        walk_at "g"
        refine q l H' hl e2 ?_
        rw [l2]
        unfold drawsF
        rw [if_pos (show (10 : Int) ^ 18 ≤ cellF ns k from hb')]
    · have hb' := of_decide_eq_false hb
      walk_at "g"
      refine lr1_go (fun i σ' H' => ∃ y, σ' = [some (.ref a), some (.int k), some (.int many), some (.int (cellF ns k)), some (.ref l), none, y, some (.int (seedN i 0 ((cellF ns k * 7919 + k * 104729 + 12345) % 2147483647)))] ∧ Ex H H' ∧
        H' l = some (.lst ((seedF i 0 ((cellF ns k * 7919 + k * 104729 + 12345) % 2147483647)).map V.int)))
        ⟨none, rfl, e1, l1⟩ ⟨hm, by omega⟩ ?_ ?_
      · rintro i σ' H' hi ⟨y, rfl, e2, l2⟩
        walk_at "g"
        refine r_app rfl l2 ?_
        walk_at "g"
        refine app_l l2 (by rw [List.length_map, seedF_len]; exact sz_lt (by omega)) ?_
        walk_at "g"
        refine ⟨some (.int i), ?_, ex_upd e2 hl, ?_⟩
        · rw [seedN_snoc, Int.zero_add]
          rfl
        · rw [upd_same, seedF_snoc, List.map_append, Int.zero_add]
          rfl
      · rintro σ' H' ⟨y, rfl, e2, l2⟩
        walk_at "g"
        refine q l H' hl e2 ?_
        rw [l2]
        unfold drawsF
        rw [if_neg (show ¬ (10 : Int) ^ 18 ≤ cellF ns k from hb')]
end
end K12

set_option Elab.async false
set_option linter.all false
set_option maxRecDepth 100000
namespace K12
open PySem PySem.Spec PyProof.Rows L2 Evl AE
local macro_rules | `(tactic| walk_at "c") => `(tactic| first | exact ⟨by decide, by decide⟩ | exact .inr ⟨by decide, by decide⟩ | exact .inl ⟨by decide, by decide⟩ | exact ⟨by decide, by decide, by decide⟩ | (show (0 : Int) < _; decide))
local macro_rules | `(tactic| walk_at "s") => `(tactic| first
  | (with_reducible refine r_var rfl ?_) | (with_reducible refine r_c ?_) | (with_reducible refine r_op ?_) | (with_reducible refine r_un ?_) | (with_reducible refine r_I0 ?_) | (with_reducible refine r_U ?_)
  | (with_reducible refine r_eq rfl ?_) | (with_reducible refine r_ne rfl ?_) | (with_reducible refine r_chain ?_) | (with_reducible refine r_test ?_) | (with_reducible refine r_tB ?_)
  | (with_reducible refine r_bl ?_) | (with_reducible refine r_and ?_) | (with_reducible refine r_or ?_) | (with_reducible refine r_not ?_) | (with_reducible refine r_nil ?_) | (with_reducible refine r_cons ?_)
  | (with_reducible refine r_tup ?_) | (with_reducible refine r_lst ?_) | (with_reducible refine r_cb ?_) | (with_reducible refine r_call ?_) | (with_reducible refine r_seq ?_) | (with_reducible refine r_set ?_)
  | (with_reducible refine r_drop ?_) | (with_reducible refine r_ret ?_) | (with_reducible refine r_next ?_) | (with_reducible refine r_if ?_) | (with_reducible refine r_sl ?_) | (with_reducible refine r_nop ?_) | (with_reducible refine r_prt ?_) | (with_reducible refine r_some ?_)
  | (with_reducible refine add_int ?_) | (with_reducible refine int_i ?_) | (with_reducible refine r_forR1 ?_) | (with_reducible refine r_forL ?_) | (with_reducible refine r_andV ?_) | (with_reducible refine r_orV ?_) | (with_reducible refine r_notV ?_) | (with_reducible refine r_ifE ?_) | (with_reducible refine r_lcL ?_) | (with_reducible refine r_fld ?_) | (with_reducible refine r_get ?_) | (with_reducible refine r_din ?_) | (with_reducible refine r_dget2 ?_) | ((with_reducible refine r_I ?_ ?_); (walk_at "c")))
local macro_rules | `(tactic| walk_at "g") => `(tactic| repeat walk_at "s")
section
variable {P : Program} {w : World} {K : PySem.W.Frag} {mg : Str → Option Value} {base : Heap}
theorem tups_rev {H : Hp} : ∀ {vs : List V} {xs : List (List V)}, Tups H vs xs → Tups H vs.reverse xs.reverse
  | _, _, .nil => .nil
  | _, _, .cons h t => by
    rw [List.reverse_cons, List.reverse_cons]
    exact (tups_rev t).snoc h
/-- a machine of the law -/
theorem law_makes {C : Addr} (mc : MCls K C) {σ : L2.St} {H : Hp} {Q : VK} {n i : Int} {pS pm : Addr} {us : List V} {ss : List StepD} {ms : List Int}
    (v2 : σ[2]? = some (some (.int n))) (v5 : σ[5]? = some (some (.ref pS))) (v6 : σ[6]? = some (some (.ref pm))) (v7 : σ[7]? = some (some (.int i)))
    (h5 : H pS = some (.lst us)) (t5 : Tups H us (ss.map stepV)) (h6 : H pm = some (.lst (ms.map V.int))) (n1 : 1 ≤ n) (n2 : n ≤ 4) (mok : ∀ m ∈ ms, 0 ≤ m ∧ m < n) (ml : ms.length ≤ 4)
    (sok : ∀ s ∈ ss, OkS n s) (sl : ss.length ≤ 600) (i0 : 0 ≤ i) (i1 : i < n)
    (q : ∀ x m H', Ex H H' → Made n ms ss.reverse i m → MachAt H' x C m → Q (.ref x) H') :
    tMake C (sp_init K) [] E0 (tCons (tVar 2) (tCons (tCB (cList K) (tCons (tVar 6) tNil)) (tCons (tRevL K (tVar 5)) (tCons (tVar 7) tNil)))) σ H Q := by
  refine r_cons ?_
  refine r_var v2 ?_
  refine r_cons ?_
  refine r_cb ?_
  refine r_cons ?_
  refine r_var v6 ?_
  refine r_nil ?_
  refine list_s (.inl (.inl (.inl h6))) fun l H1 hl e1 t1 => ?_
  refine r_cons ?_
  refine ⟨_, v5, pS, us, rfl, .inl (.inl (e1 _ _ h5)), fun p hp => ?_⟩
  have e2 : Ex H1 (upd H1 p (.lst us.reverse)) := Ex.new hp
  have t2 : (upd H1 p (.lst us.reverse)) p = some (.lst us.reverse) := upd_same
  generalize (upd H1 p (.lst us.reverse)) = H2 at e2 t2
  refine r_cons ?_
  refine r_var v7 ?_
  refine r_nil ?_
  intro x dx hx hdx ne
  have e3 : Ex H2 (upd (upd H2 dx (.own x)) x (.ins C dx [])) := (Ex.new hdx).trans (Ex.new (by rw [upd_ne (fun z => ne z.symm)]; exact hx))
  have t3 : (upd (upd H2 dx (.own x)) x (.ins C dx [])) x = some (.ins C dx []) := upd_same
  generalize (upd (upd H2 dx (.own x)) x (.ins C dx [])) = H3 at e3 t3
  have tr := tups_rev (t5.tx (tx_ex (e1.trans (e2.trans e3))))
  rw [← List.map_reverse] at tr
  refine ⟨x, C, dx, l, p, n, i, ms, us.reverse, ss.reverse, rfl, t3, mc, n1, by omega, .inl (.inl (.inl ((e2.trans e3) _ _ t1))), mok, by omega, .inl (.inl (.inl (e3 _ _ t2))), tr, fun s hs => sok s (List.mem_reverse.mp hs), by rw [List.length_reverse]; exact sl, i0, i1, fun m H' md ma c => ⟨rfl, ?_⟩⟩
  exact q x m H' ((e1.trans e2).trans (ex_ch e3 hx c)) md ma
/-! the ends that are due -/
def dueF (ss : List StepD) (n : Int) (here : Int) (ask : Str) : List Int := ((List.range n.toNat).filter fun (e : Nat) => decide ((here, ask, (e : Int)) ∈ ss)).map fun (e : Nat) => (e : Int)
theorem range_up : ∀ k : Nat, (List.range k).Pairwise (· < ·)
  | 0 => by rw [List.range_zero]; exact .nil
  | k + 1 => by
    rw [List.range_succ, List.pairwise_append]
    exact ⟨range_up k, List.pairwise_singleton _ _, fun a ha b hb => by rw [List.mem_singleton.mp hb]; exact List.mem_range.mp ha⟩
theorem ends_due {n : Int} {ms : List Int} {ss : List StepD} {i : Int} {m : Mach} {ask : Str} (md : Made n ms ss.reverse i m) (sok : ∀ s ∈ ss, OkS n s) :
    endsF m.rows [.inl m.now, .inr ask] = (dueF ss n i ask).map V.int := by
  have key : (m.rows.filter fun s => decide ([Sum.inl s.1, Sum.inr s.2.1] = ([.inl m.now, .inr ask] : List Key))) = ((List.range n.toNat).filter fun (e : Nat) => decide ((i, ask, (e : Int)) ∈ ss)).map fun (e : Nat) => (i, ask, (e : Int)) := by
    refine rows_eq (md.up.filter _) ?_ fun s => ?_
    · rw [List.pairwise_map]
      refine ((range_up _).filter _).imp fun {a b} h => ?_
      exact .inr ⟨rfl, .inr ⟨rfl, by show (a : Int) < b; omega⟩⟩
    · obtain ⟨s1, s2, s3⟩ := s
      rw [List.mem_filter, md.mem, List.mem_reverse, List.mem_map, md.now, decide_eq_true_iff]
      constructor
      · rintro ⟨h1, h2⟩
        have z1 : s1 = i := Sum.inl.inj (List.cons.inj h2).1
        have z2 : s2 = ask := Sum.inr.inj (List.cons.inj (List.cons.inj h2).2).1
        subst z1 z2
        have o := sok _ h1
        have p0 : 0 ≤ s3 := o.e0
        have p1 : s3 < n := o.e1
        refine ⟨s3.toNat, ?_, ?_⟩
        · rw [List.mem_filter, List.mem_range, decide_eq_true_iff, show ((s3.toNat : Nat) : Int) = s3 by omega]
          exact ⟨by omega, h1⟩
        · rw [show ((s3.toNat : Nat) : Int) = s3 by omega]
      · rintro ⟨e, h1, h2⟩
        rw [List.mem_filter, decide_eq_true_iff] at h1
        rw [← h2]
        exact ⟨h1.2, rfl⟩
  unfold endsF dueF
  rw [key, List.map_map, List.map_map]
  rfl
theorem inn_mem {st : Int} {x : Str} {single : Bool} {n d : Int} {k : Nat} {s : StepD} (h : s ∈ innF st x single n d k) : s.1 = st ∧ s.2.1 = x ∧ 0 ≤ s.2.2 ∧ s.2.2 < k := by
  unfold innF at h
  obtain ⟨e, he, rfl⟩ := List.mem_map.mp h
  have h2 := List.mem_range.mp (List.mem_filter.mp he).1
  exact ⟨rfl, rfl, by show 0 ≤ ((e : Nat) : Int); omega, by show ((e : Nat) : Int) < k; omega⟩
theorem steps_ok {row : List Int} {asks : List Str} {single : Bool} {n : Int} (n1 : 1 ≤ n) (ak : ∀ x ∈ asks, AskOk x) : ∀ s ∈ stepsF row asks single n, OkS n s := fun s hs => by
  unfold stepsF outF at hs
  obtain ⟨i, hi, hs⟩ := List.mem_flatMap.mp hs
  unfold midF at hs
  obtain ⟨j, hj, hs⟩ := List.mem_flatMap.mp hs
  have hi' := List.mem_range.mp hi
  have hj' := List.mem_range.mp hj
  obtain ⟨z1, z2, z3, z4⟩ := inn_mem hs
  have ax : AskOk (asks.getD j Str.empty) := by
    rw [List.getD_eq_getElem?_getD, List.getElem?_eq_getElem hj']
    exact ak _ (List.getElem_mem hj')
  rw [← z2] at ax
  exact ⟨by omega, by omega, ax.1, ax.2.1, ax.2.2, z3, by omega⟩
theorem inn_len (st : Int) (x : Str) (single : Bool) (n d : Int) (k : Nat) : (innF st x single n d k).length ≤ k := by
  unfold innF
  rw [List.length_map]
  exact Nat.le_trans (List.length_filter_le _ _) (by rw [List.length_range]; exact Nat.le_refl _)
theorem mid_len (row : List Int) (asks : List Str) (single : Bool) (n : Int) (i : Nat) : ∀ j, (midF row asks single n i j).length ≤ j * n.toNat
  | 0 => by unfold midF; simp
  | j + 1 => by
    rw [mid_snoc, List.length_append, Nat.add_mul, Nat.one_mul]
    exact Nat.add_le_add (mid_len row asks single n i j) (inn_len _ _ _ _ _ _)
theorem out_len (row : List Int) (asks : List Str) (single : Bool) (n : Int) : ∀ i, (outF row asks single n i).length ≤ i * (asks.length * n.toNat)
  | 0 => by unfold outF; simp
  | i + 1 => by
    rw [out_snoc, List.length_append, Nat.add_mul, Nat.one_mul]
    exact Nat.add_le_add (out_len row asks single n i) (mid_len _ _ _ _ _ _)
theorem steps_len {row : List Int} {asks : List Str} {single : Bool} {n : Int} (n4 : n ≤ 4) (al : asks.length ≤ 4) : (stepsF row asks single n).length ≤ 600 := by
  have h := out_len row asks single n n.toNat
  have h1 : asks.length * n.toNat ≤ 4 * 4 := Nat.mul_le_mul al (by omega)
  have h2 : n.toNat * (asks.length * n.toNat) ≤ 4 * (4 * 4) := Nat.mul_le_mul (by omega) h1
  unfold stepsF
  omega
theorem lmarks_ok {d n : Int} : ∀ m ∈ lmarksF d n, 0 ≤ m ∧ m < n := fun m hm => by
  unfold lmarksF at hm
  obtain ⟨e, he, rfl⟩ := List.mem_map.mp hm
  have h2 := List.mem_range.mp (List.mem_filter.mp he).1
  omega
theorem lmarks_len {d n : Int} (n4 : n ≤ 4) : (lmarksF d n).length ≤ 4 := by
  unfold lmarksF
  rw [List.length_map]
  have := List.length_filter_le (mkB d) (List.range n.toNat)
  rw [List.length_range] at this
  omega
theorem marks_now {n i : Int} {ms : List Int} {ss : List StepD} {m : Mach} (md : Made n ms ss i m) (i0 : 0 ≤ i) (i1 : i < n) : decide (m.now ∈ m.marks) = decide (i ∈ ms) := by
  rw [md.now, md.marks]
  refine decide_eq_decide.mpr ?_
  unfold marksF
  rw [List.mem_filter, decide_eq_true_iff]
  refine ⟨fun h => h.2, fun h => ⟨List.mem_map.mpr ⟨i.toNat, List.mem_range.mpr (by omega), by omega⟩, h⟩⟩
theorem due_len (ss : List StepD) {n : Int} (n4 : n ≤ 4) (here : Int) (ask : Str) : (dueF ss n here ask).length ≤ 4 := by
  unfold dueF
  rw [List.length_map]
  have := List.length_filter_le (fun (e : Nat) => decide ((here, ask, (e : Int)) ∈ ss)) (List.range n.toNat)
  rw [List.length_range] at this
  omega
def dueV (ss : List StepD) (here : Int) (ask : Str) : V → Bool
  | .int e => decide ((here, ask, e) ∈ ss)
  | _ => false
theorem due_ints (ss : List StepD) (n here : Int) (ask : Str) : ((intsV n.toNat).filter (dueV ss here ask)).map (fun v => v) = (dueF ss n here ask).map V.int := by
  rw [List.map_id']
  unfold intsV dueF
  rw [List.filter_map, List.map_map]
  rfl
theorem ask_strOk {x : Str} (h : ∀ c ∈ x.cps.toList, 97 ≤ c ∧ c ≤ 122) : PyData.strOk x = true := by
  show x.cps.all (fun c => decide (c < 1114112)) = true
  rw [← Array.all_toList, List.all_eq_true]
  intro c hc
  have := h c hc
  exact decide_eq_true (by omega)
end
end K12

set_option Elab.async false
set_option linter.all false
set_option maxRecDepth 100000
set_option maxHeartbeats 2000000
/-! t.count(i) of a tuple of ints -/
namespace AE
open PySem PySem.Spec PyProof.Rows L2 Evl
def isInt (k : Int) : Value → Bool
  | .int j _ => j == k
  | _ => false
def rCountT (K : PySem.W.Frag) : V → List V → Hp → VK → Prop := fun x vs H Q => ∃ (a : Addr) (ms : List Int) (k : Int), x = .ref a ∧ vs = [.int k] ∧ SqT K H a (ms.map V.int) ∧ Q (.int ((ms.countP fun j => j == k : Nat) : Int)) H
theorem count_vals {k : Int} : ∀ {ms : List Int} {us : List Value}, Vals (ms.map V.int) us → us.countP (isInt k) = ms.countP fun j => j == k
  | [], _, .nil => rfl
  | m :: ms, _, .cons r t => by
    obtain ⟨tk, rfl⟩ := r
    rw [List.countP_cons, List.countP_cons, count_vals t]
    rfl
theorem mem_vals : ∀ {ms : List Int} {us : List Value}, Vals (ms.map V.int) us → ∀ u ∈ us, ∃ j t, u = .int j t
  | [], _, .nil, _, h => nomatch h
  | m :: ms, _, .cons r t, u, h => by
    rcases List.mem_cons.mp h with rfl | h
    · obtain ⟨tk, rfl⟩ := r
      exact ⟨_, _, rfl⟩
    · exact mem_vals t u h
section
variable {X : Cx}
theorem mt_countT : MtR X "tuple.count" (rCountT X.K) := by
  rintro pins s σ H x xs v us Q I rx rxs ⟨a, ms, k, rfl, rfl, hs, q⟩
  cases rx
  obtain ⟨its, rv, ⟨⟨cls, dd, data, sl⟩, ho, hc, n, hd⟩, hlen⟩ := I.tuple hs
  obtain ⟨u, rfl, tk, rfl⟩ := vals1 rxs
  simp only at hc hd
  subst hc hd
  refine call_meets PySem.F.slot_tuple_count ⟨_, ho, rfl⟩ PySem.F.entry_tuple_count (PySem.F.args_tuple_count_2 _ _) (SeqAt.tuple_countAt a its.toArray n dd sl (.int k tk) (isInt k)) ⟨ho, fun u hu => ?_, ?_⟩
  · obtain ⟨j, t, rfl⟩ := mem_vals rv u (by simpa using hu)
    exact SeqAt.EqAt.int_int j t k tk
  · rw [show its.toArray.toList = its from rfl, count_vals rv]
    exact ⟨.int _, H, I.tok _, ⟨_, rfl⟩, q⟩
end
end AE
namespace AE
open PySem PySem.Spec PyProof.Rows L2 Evl
/-- a tuple whose object is known to bear no dict: its methods may be called -/
def TupF (H : Hp) (a : Addr) (xs : List V) : Prop := ∃ o : Obj, o.cls = .type "tuple" ∧ o.dict = none ∧ H a = some (.frz o (.tup xs))
theorem TupF.sq {K : PySem.W.Frag} {H : Hp} {a : Addr} {xs : List V} (h : TupF H a xs) : SqT K H a xs := h.elim fun o z => .inl (.inr ⟨o, z.2.2⟩)
theorem TupF.ex {H H' : Hp} {a : Addr} {xs : List V} (e : Ex H H') (h : TupF H a xs) : TupF H' a xs := h.elim fun o z => ⟨o, z.1, z.2.1, e _ _ z.2.2⟩
theorem TupF.ch {H H' : Hp} {x C dx a : Addr} {fs : List (Str × V)} {xs : List V} (hx : H x = some (.ins C dx fs)) (c : Ch x H H') (h : TupF H a xs) : TupF H' a xs := h.elim fun o z => ⟨o, z.1, z.2.1, c _ _ (ne_of z.2.2 hx (by intro w; cases w)) z.2.2⟩
theorem TupF.tup {H : Hp} {a D : Addr} {xs : List V} {o : HO} (hD : H D = some o) (h : TupF H a xs) (ne : ∀ ob u, o ≠ .frz ob u) {o2 : HO} : TupF (upd H D o2) a xs := h.elim fun ob z => ⟨ob, z.1, z.2.1, by rw [upd_ne (ne_of z.2.2 hD (Ne.symm (ne _ _)))]; exact z.2.2⟩
def NewF (H : Hp) (xs : List V) (Q : VK) : Prop := ∀ q o, H q = none → o.cls = .type "tuple" → o.dict = none → Q (.ref q) (upd H q (.frz o (.tup xs)))
theorem newf_go {H : Hp} {xs : List V} {Q : VK} (k : ∀ q H1, H q = none → Ex H H1 → TupF H1 q xs → Q (.ref q) H1) : NewF H xs Q := fun q o nq hc hd => k q _ nq (Ex.new nq) ⟨o, hc, hd, upd_same⟩
section
variable {X : Cx} {K : PySem.W.Frag} {pos apos cpos : Pos} {es : List Expr} {t : TA} {x1 : Nat} {o e : Expr} {to : TE}
def tTupF (t : TA) : TE := fun σ H Q => t σ H fun xs H1 => xs.length ≤ sizeLine ∧ NewF H1 xs Q
theorem laidF {pins : List (Addr × Obj)} {σ : L2.St} {H : Hp} {s : Shared} {xs : List V} {us : List Value} {Q : VK} {t' : Nat} (I : Inv X pins σ H s) (r : Vals xs us) (z : xs.length ≤ sizeLine) (q : NewF H xs Q) :
    EP X pins σ Q (.ref s.heap.objs.size) { s with heap := s.heap.push { cls := .type "tuple", data := .seq us.toArray }, toks := t' } :=
  ⟨.ref s.heap.objs.size, _, I.laid (a := s.heap.objs.size) (o := .frz { cls := .type "tuple", data := .seq us.toArray } (.tup xs)) (fun _ _ e => Heap.get?_push_of_some _ e) (Nat.le_refl _) ⟨Heap.get?_push_size _ rfl, z, us, r, IsTup.new _ _⟩, rfl, q _ _ (I.hok.fresh (Nat.le_refl _)) rfl rfl⟩
/-- (e, ..) -/
theorem pe_tupF (h : PA X es t) : PE X (.Tuple es x1 pos) (tTupF t) := ⟨fun pins s σ H Q I hq =>
  wpAny_Tuple_spliced (thn (h.run pos pins s σ H _ I hq) fun us s1 ⟨xs, H1, I1, r, z, q⟩ => ⟨by rw [← r.length]; exact z, laidF (t' := s1.toks) I1 r z q⟩)⟩
/-- tuple(l) of a list -/
def cTupF (K : PySem.W.Frag) : List V → Hp → VK → Prop := fun vs H Q => ∃ p xs, vs = [.ref p] ∧ SqL K H p xs ∧ NewF H xs Q
theorem c_tupleF : CallR X (.type "tuple") (cTupF X.K) := by
  rintro pins s σ H vs us Q I r ⟨p, xs, rfl, hs, q⟩
  rw [Vals.ref1 r]
  obtain ⟨its, rv, pl, hz⟩ := I.list hs
  refine call_tuple_list pl.isList (fun h' hk => ?_) (by rw [List.size_toArray, ← rv.length]; exact hz)
  exact laidF (s := { s with heap := h' }) (t' := s.toks) (I.kept (t' := s.toks) hk) rv hz q
/-- t.count(i) -/
def tCountF (K : PySem.W.Frag) (to : TE) (t : TA) : TE := fun σ H Q => to σ H fun x H1 => (∃ a xs, x = .ref a ∧ TupF H1 a xs) ∧ t σ H1 fun ys H2 => rCountT K x ys H2 Q
theorem pe_countF (ho : PE X o to) (ha : PA X [e] t) (h : X.K = K := by rfl) (hbase : attributeBase o ("count" : Str) X.env (eval o X.env) = eval o X.env := by rfl)
    (hfew : ((backTo cpos (starEach [e] X.env)).all (fun x => !x.1) && (backToKw cpos (keywordEach [] X.env)).all (fun x => x.1.isSome) && decide (([e] : List Expr).length + ([] : List Keyword).length + (if ([] : List Keyword).isEmpty then 0 else 1) < 30)) = true := by rfl)
    (hline : (apos.endLine == cpos.line) = true := by rfl) (hs : starEach [e] X.env = (false, eval e X.env) :: starEach [] X.env := by rfl) (hplain : (backTo cpos (starEach [] X.env)).any (·.1) = false := by rfl) :
    PE X (.Call (.Attribute o ("count" : Str) apos) [e] [] cpos) (tCountF K to t) := by
  subst h
  refine ⟨fun pins s σ H Q I h => wpAny_Call_method_late hbase hfew hline rfl (thn (ho.run pins s σ H _ I h) fun v s1 ⟨x, H1, I1, r1, ⟨a, xs, ex, tf⟩, q1⟩ => ?_)⟩
  subst ex
  cases r1
  obtain ⟨ob, hc, hd, h1⟩ := tf
  have go : s1.heap.get? a = some ob := (show s1.heap.get? a = some ob ∧ _ from I1.hok a _ h1).1
  refine ⟨"tuple", "tuple.count", PySem.F.plainAttrs_tuple, PySem.F.slot_tuple_count, PySem.F.type_tuple_count, ⟨ob, go, hc⟩, (fun b e => by cases e; exact ⟨ob, go, hd⟩), ?_⟩
  have hA := ha.run cpos pins s1 σ H1 _ I1 q1
  rw [hs] at hA ⊢
  refine Calls.callWith_builtin (by show (false || (backTo cpos (starEach [] X.env)).any (·.1)) = false; rw [hplain] <;> rfl) (Calls.evalArgs_plain ?_)
  exact thn hA fun us s2 ⟨vs, H2, I2, r2, q2⟩ => mt_countT pins s2 σ H2 (.ref a) vs (.ref a) us Q I2 rfl r2 q2
end
theorem countF_go {K : PySem.W.Frag} {σ : L2.St} {H : Hp} {a : Addr} {ms : List Int} {k : Int} {to : TE} {t : TA} {Q : VK} (hv : ∀ R : VK, R (.ref a) H → to σ H R) (h : TupF H a (ms.map V.int)) (ht : ∀ R : List V → Hp → Prop, R [.int k] H → t σ H R) (q : Q (.int ((ms.countP fun j => j == k : Nat) : Int)) H) : tCountF K to t σ H Q :=
  hv _ ⟨⟨a, _, rfl, h⟩, ht _ ⟨a, ms, k, rfl, rfl, h.sq, q⟩⟩
end AE
namespace AE
open PySem PySem.Spec PyProof.Rows L2 Evl
theorem r_tupF {t : TA} {σ : L2.St} {H : Hp} {Q : VK} (q : t σ H fun xs H1 => xs.length ≤ sizeLine ∧ NewF H1 xs Q) : tTupF t σ H Q := q
end AE

set_option Elab.async false
set_option linter.all false
set_option maxRecDepth 100000
set_option maxHeartbeats 2000000
/-! dict comprehensions whose keys are nested tuples -/
namespace AE
open PySem PySem.Spec PyProof.Rows L2 Evl
section
variable {X : Cx} {pins : List (Addr × Obj)} {σ : L2.St} {H : Hp} {s : Shared}
theorem put_n {D b : Addr} {kvs : List NE} {k : NK} {v : V} {r : Value} {Q : Unit → Shared → Prop} {Er : Value → Shared → Prop} {A : Around} (hu : A.units + 64 < cLine) (I : Inv X pins σ H s) (hD : H D = some (dN X.w D kvs)) (hk : KeysOk H kvs) (dk : k.depth ≤ 8) (eb : NAt H (.ref b) k) (hl : kvs.length < sizeLine)
    (rv : RelV v r) (h : ∀ s1, Inv X pins σ (upd H D (dN X.w D (putN kvs k b v))) s1 → Q () s1) : wpAny (model X.prog X.w) A (dictSet D (.ref b) r) Q Er s := by
  obtain ⟨_, hd, xs, rel, dd⟩ := dn_rd I.hok (.inl hD) hk
  have hx : xs.length ≤ sizeLine := by
    have e := Paired.length rel
    omega
  have hz : (putN kvs k b v).length ≤ sizeLine := Nat.le_trans (length_putN kvs k b v) (by omega)
  refine wpAny_dictSet_heap (knd := nkKind X.prog X.w) (hsz := hx) (show A.units + 8 < cLine by omega) ⟨dk, nat_is I.hok eb rfl⟩ dd fun h1 dd1 hs => h _ ?_
  have he : ∃ q, h1.get? D = some q := let ⟨q, _, _, hq, _⟩ := dd1; ⟨q, hq⟩
  exact d_write I (by rw [hD]; trivial) hs he (dn_after hz hd (rel.put k b rv) dd1)
/-- the stores of a comprehension whose keys are tuples -/
def sN (w : World) (D : Addr) : V → V → Hp → (Hp → Prop) → Prop := fun y z H R => ∃ (kvs : List NE) (k : NK) (b : Addr), H D = some (dN w D kvs) ∧ KeysOk H kvs ∧ y = .ref b ∧ k.depth ≤ 8 ∧ NAt H (.ref b) k ∧ kvs.length < sizeLine ∧ R (upd H D (dN w D (putN kvs k b z)))
def tDcN (w : World) (wi : TI) (g : TG) (tt : TT) (tk tv : TE) (vs : List Nat) : TE := fun σ H Q => wi σ H fun J Ha => ∀ D, Ha D = none → ∃ W : Nat → Nat → Hp → Prop, (∃ m, W 0 m (upd Ha D (dN w D []))) ∧ ∀ i m Hb, W i m Hb →
  (J.stop i Hb ∧ Q (.ref D) Hb) ∨ (J.go i Hb ∧ ∃ Nx : Hp → Prop, (∀ Hc, Nx Hc → ∃ m1, m1 < m ∧ W (i + 1) m1 Hc) ∧ ∀ x Hc, J.yld i Hb x Hc → g x (wipe σ vs) Hc fun σa Hd => wipe σa vs = wipe σ vs ∧ tt σa Hd fun b He =>
    if b = true then tk σa He fun y Hf => tv σa Hf fun z Hg => sN w D y z Hg Nx else Nx He)
theorem pe_dcN {kx vx tg iter : Expr} {ifs : List Expr} {scope : Scope} {own : List (Str × Nat)} {pos : Pos} {wi : TI} {g : TG} {tt : TT} {tk tv : TE} (hu : X.A.units + 64 < cLine) (hc : X.calm = true) (hN : X.N.Nodup) (hi : PI X tg iter wi) (ok : BlkOk X.N X.env.scope scope own)
    (hg : ∀ s0 H0 C cl fp, PG (X.blk s0 H0 scope (compEnvC scope cl C X.env) fp) tg g) (ht : ∀ s0 H0 C cl fp, PTs (X.blk s0 H0 scope (compEnvC scope cl C X.env) fp) ifs tt)
    (hk : ∀ s0 H0 C cl fp, PE (X.blk s0 H0 scope (compEnvC scope cl C X.env) fp) kx tk) (he : ∀ s0 H0 C cl fp, PE (X.blk s0 H0 scope (compEnvC scope cl C X.env) fp) vx tv)
    (hs : ∀ x, foldedSetIterable iter X.env x = pure x := by intro _; rfl) : PE X (.DictComp kx vx [⟨tg, iter, ifs, 0⟩] scope pos) (tDcN X.w wi g tt tk tv (own.map (·.2))) := by
  refine ⟨fun pins s σ H Q I h => ?_⟩
  rw [arm_eval_DictComp]
  have free : ∀ y ∈ scope.names, y.2 = .free → ∃ c, X.env.cells.lookup y.1 = some c := fun y hy e => by
    rcases ok.free y hy e with z | z
    · exact I.ok.has _ (.inl z)
    · exact I.ok.has _ (.inr z)
  refine wpAny_comprehension_free (use := none) rfl hs (closure_ok free) ok.kind (fun y hy e => by rw [ok.uniq y hy, e]) (thn (hi.run pins s σ H _ I h) fun xv sa hx => thn hx fun itv sb hb => ?_)
  obtain ⟨it, fp, tn, J, Hb, e, Ib, T, stb, fb, q⟩ := hb
  subst e
  refine wpAny_newObj_type (newEnv_comp ?_)
  generalize hDe : sb.heap.objs.size = D
  obtain ⟨W, ⟨m0, w0⟩, turn⟩ := q D (Ib.hok.fresh (Nat.le_of_eq hDe))
  generalize hsc : ({ sb with heap := sb.heap.push { cls := .type "dict", data := .dict #[] } } : Shared) = sc
  have hsc' : sc.heap = sb.heap.push { cls := .type "dict", data := .dict #[] } := by rw [← hsc]
  have Ic : Inv X pins σ (upd Hb D (dN X.w D [])) sc := by
    rw [← hsc]
    refine Ib.laid (t' := sb.toks) (fun _ _ e => Heap.get?_push_of_some _ e) (Nat.le_of_eq hDe) ?_
    rw [← hDe]
    exact dn_ok ⟨Nat.zero_le _, beq_eq_false_iff_ne.mpr (Ne.symm (Nat.ne_of_lt Ib.big)), [], .nil, _, #[], 0, Heap.get?_push_size _ rfl, ⟨rfl, rfl, rfl⟩, rfl, rfl, List.nodup_nil⟩
  have old : ∀ b ∈ fp, b < sb.heap.objs.size := fun b hb => by
    obtain ⟨_, z, _⟩ := T.obj _ _ stb b hb
    exact Heap.lt_size z
  have fc : ∀ b ∈ fp, FpOk X pins (upd Hb D (dN X.w D [])) b ∧ b < sc.heap.objs.size := fun b hb => by
    have z := old b hb
    refine ⟨⟨by rw [upd_ne (by rw [← hDe]; exact Nat.ne_of_lt z)]; exact (fb b hb).1, (fb b hb).2⟩, ?_⟩
    rw [hsc', Heap.size_push]
    exact Nat.lt_succ_of_lt z
  have stc : tn 0 sc.heap := T.keep _ _ _ stb fun b _ o e => by rw [hsc']; exact Heap.get?_push_of_some _ e
  have Id := block_start Ic ok hN fc
  have pg := hg sc (upd Hb D (dN X.w D [])) sc.heap.objs.size (cellsFrom (sc.heap.objs.size + 1) scope.names (cloFrom X.env.cells scope.names [])) fp
  have pt := ht sc (upd Hb D (dN X.w D [])) sc.heap.objs.size (cellsFrom (sc.heap.objs.size + 1) scope.names (cloFrom X.env.cells scope.names [])) fp
  have pk := hk sc (upd Hb D (dN X.w D [])) sc.heap.objs.size (cellsFrom (sc.heap.objs.size + 1) scope.names (cloFrom X.env.cells scope.names [])) fp
  have pv := he sc (upd Hb D (dN X.w D [])) sc.heap.objs.size (cellsFrom (sc.heap.objs.size + 1) scope.names (cloFrom X.env.cells scope.names [])) fp
  show codeAny _ _ (.compStart (.DictComp kx vx [⟨tg, iter, ifs, 0⟩] scope pos) 0 (.ref it) (.ref D) (compEnvC scope (cellsFrom (sc.heap.objs.size + 1) scope.names (cloFrom X.env.cells scope.names [])) sc.heap.objs.size X.env)) _ { sc with heap := pushCells (sc.heap.push { cls := .type "dict", data := .dict #[] }) scope.names }
  have nfp : ∀ b ∈ fp, (upd Hb D (dN X.w D [])) b = none := fun b hb => (fc b hb).1.1
  generalize hce : compEnvC scope (cellsFrom (sc.heap.objs.size + 1) scope.names (cloFrom X.env.cells scope.names [])) sc.heap.objs.size X.env = ce at Id pg pt pk pv ⊢
  have cL : ce.locals = sc.heap.objs.size := by subst hce; rfl
  generalize hHc : upd Hb D (dN X.w D []) = Hc at Ic Id pg pt pk pv w0 nfp fc
  generalize hsd : ({ sc with heap := pushCells (sc.heap.push { cls := .type "dict", data := .dict #[] }) scope.names } : Shared) = sd at Id ⊢
  have std : tn 0 sd.heap := T.keep _ _ _ stc fun b _ o e => by rw [← hsd]; exact pushCells_keeps _ _ _ _ (Heap.get?_push_of_some _ e)
  have stat : ∀ {σ1 : L2.St} {H1 : Hp} {s1 : Shared}, Inv (X.blk sc Hc scope ce fp) [] σ1 H1 s1 → (∀ b ∈ fp, H1 b = none) → ∀ b ∈ fp, FpOk (X.blk sc Hc scope ce fp) [] H1 b := fun {σ1 H1 s1} J1 nn b hb =>
    ⟨nn b hb, (J1.ok.exf b hb).1, J1.ok.exfs b hb, .inl hb, fun x c e => (J1.ok.exf b hb).2 x c e, fun p hp => absurd (show p ∈ ([] : List (Addr × Obj)) ++ [] from hp) (by simp)⟩
  refine codeAny_compStart_dict ?_ (T.self X.A 0 _ _ _ std ?_)
  all_goals
    refine compLoop_anyD (fun n s1 => ∃ i H1, Inv (X.blk sc Hc scope ce fp) [] (wipe σ (own.map (·.2))) H1 s1 ∧ tn i s1.heap ∧ (∀ b ∈ fp, H1 b = none) ∧ W i n H1) ?_ m0 ⟨0, Hc, Id, std, nfp, w0⟩
    rintro n s5 ⟨i, H5, I5, st5, n5, w5⟩
    rcases turn i n H5 w5 with ⟨stop, fine⟩ | ⟨go, Nx, less, step⟩
    · refine thnF (T.done (X.blk sc Hc scope ce fp) rfl rfl rfl hc i [] s5 _ H5 (fun _ _ => False) I5 (stat I5 n5) st5 stop) fun r s6 ⟨hr, I6⟩ => ?_
      subst hr
      have I7 : Inv X pins σ H5 s6 := Ic.call' (ch := fp) I6.os I6.base I6.hok I6.bare fun b hb => ⟨(fc b hb).1.2.2.2.1, (fc b hb).1.2.1, (fc b hb).1.2.2.2.2.1, (fc b hb).1.2.2.2.2.2⟩
      have nC : H5 sc.heap.objs.size = none := by
        rw [← cL]
        exact I6.free
      obtain ⟨mm, hmm, _⟩ := I6.loc
      have hm2 : s6.heap.Ns ce.locals mm := hmm
      rw [cL] at hm2
      refine ⟨mm, hm2, fun h2 sb2 => ?_⟩
      obtain ⟨f0, f1, _, f3, f4, f5⟩ := Ic.fpOk (Nat.le_refl _) nC
      exact ⟨.ref D, H5, I7.turned (t' := s6.toks) (fun b o hb e => (sb2.2 b hb).trans e) f0 f1 f3 f4 f5, rfl, fine⟩
    · refine thnF (T.item (X.blk sc Hc scope ce fp) rfl rfl rfl hc i [] s5 _ H5 (fun _ _ => False) I5 (stat I5 n5) st5 go) fun r s6 ⟨u, hr, more⟩ => ?_
      subst hr
      refine thnF more fun _ s7 ⟨x, H7, I7, rx, yx, st7, n7⟩ => ?_
      refine thnF (pg.run _ s7 _ H7 x u _ (I7.pinned (stat I7 n7) (T.obj _ _ st7)) rx (step x H7 yx)) fun _ s8 ⟨σ8, H8, I8, hw, q8⟩ => ?_
      have back : ∀ {s1 : Shared} {H1 : Hp}, Inv (X.blk sc Hc scope ce fp) ([] ++ pinsAt fp s7.heap) σ8 H1 s1 → Nx H1 → ∃ m, m < n ∧ ∃ i H1, Inv (X.blk sc Hc scope ce fp) [] (wipe σ (own.map (·.2))) H1 s1 ∧ tn i s1.heap ∧ (∀ b ∈ fp, H1 b = none) ∧ W i m H1 := fun {s1 H1} J1 nx => by
        obtain ⟨m1, l1, w1⟩ := less H1 nx
        have keep : ∀ b ∈ fp, ∀ o, s7.heap.get? b = some o → s1.heap.get? b = some o ∧ H1 b = none := fun b hb o e => by
          have z := J1.pin (b, o) (List.mem_append_right _ (List.mem_append_right _ (mem_pinsAt hb e)))
          exact ⟨z.1, z.2.1⟩
        refine ⟨m1, l1, i + 1, H1, (J1.unpinned (pins := [])).weak (by rw [← hw, wipe_length]) (fun j v e => ?_), T.keep _ _ _ st7 fun b hb o e => (keep b hb o e).1, fun b hb => ?_, w1⟩
        · rw [← hw] at e
          exact (wipe_some e).1
        · obtain ⟨o, e, _⟩ := T.obj _ _ st7 b hb
          exact (keep b hb o e).2
      refine thnF (pt.run _ s8 σ8 H8 _ I8 q8) fun b s9 ⟨H9, I9, q9⟩ => ?_
      cases b
      · simp only [Bool.false_eq_true, if_false] at q9 ⊢
        exact back I9 q9
      · simp only [if_true] at q9 ⊢
        refine thnF (pk.run _ s9 σ8 H9 _ I9 q9) fun z s10 ⟨yk, H10, I10, rk, q10⟩ => ?_
        refine thnF (pv.run _ s10 σ8 H10 _ I10 q10) fun z2 s11 ⟨yv, H11, I11, rz, kvs, k1, kb, eD, ko, ek, dk, eb, l11, nx⟩ => ?_
        subst ek
        cases rk
        exact put_n (X := X.blk sc Hc scope ce fp) hu I11 eD ko dk eb l11 rz fun s12 I12 => back I12 nx
end
end AE

namespace AE
open PySem PySem.Spec PyProof.Rows L2 Evl
section
variable {w : World} {σ : L2.St} {H : Hp} {J : It} {n : Nat} {G : Hp → Prop} {Y : Nat → Hp → V → Hp → Prop} {vs : List Nat} {g : TG} {t : TT} {tk tv : TE} {D : Addr} {Qd : Hp → Prop}
theorem dcN_it (wk : Walk J n G Y) (Pv : Nat → Hp → Prop) (h0 : Pv 0 (upd H D (dN w D []))) (hG : ∀ i Ha, i ≤ n → Pv i Ha → G Ha)
    (hs : ∀ i x Ha Hb, i < n → Pv i Ha → Y i Ha x Hb → g x (wipe σ vs) Hb fun σ2 Hc => wipe σ2 vs = wipe σ vs ∧ t σ2 Hc fun b Hd =>
      if b = true then tk σ2 Hd fun y He => tv σ2 He fun z Hf => sN w D y z Hf (Pv (i + 1)) else Pv (i + 1) Hd) (hd : ∀ Ha, Pv n Ha → Qd Ha) :
    ∃ W : Nat → Nat → Hp → Prop, (∃ m, W 0 m (upd H D (dN w D []))) ∧ ∀ i m Ha, W i m Ha →
      (J.stop i Ha ∧ Qd Ha) ∨ (J.go i Ha ∧ ∃ Nx : Hp → Prop, (∀ Hb, Nx Hb → ∃ m1, m1 < m ∧ W (i + 1) m1 Hb) ∧ ∀ x Hb, J.yld i Ha x Hb → g x (wipe σ vs) Hb fun σ2 Hc => wipe σ2 vs = wipe σ vs ∧ t σ2 Hc fun b Hd =>
        if b = true then tk σ2 Hd fun y He => tv σ2 He fun z Hf => sN w D y z Hf Nx else Nx Hd) := by
  refine ⟨fun i m Ha => m + i = n ∧ Pv i Ha, ⟨n, by omega, h0⟩, ?_⟩
  rintro i m Ha ⟨e, p⟩
  have q := hG i Ha (by omega) p
  by_cases lt : i < n
  · exact .inr ⟨wk.goes i Ha lt q, Pv (i + 1), fun Hb p1 => ⟨m - 1, by omega, by omega, p1⟩, fun x Hb y => hs i x Ha Hb lt p (wk.yields i Ha x Hb lt q y)⟩
  · obtain rfl : i = n := by omega
    exact .inl ⟨wk.stops Ha q, hd Ha p⟩
end
end AE
namespace AE
open PySem PySem.Spec PyProof.Rows L2 Evl
theorem depths_le {n : Nat} : ∀ {ks : List NK}, (∀ k ∈ ks, k.depth ≤ n) → NK.depths ks ≤ n
  | [], _ => by unfold NK.depths; exact Nat.zero_le _
  | k :: ks, h => by
    unfold NK.depths
    exact Nat.max_le.mpr ⟨h k (List.mem_cons_self ..), depths_le fun x hx => h x (List.mem_cons_of_mem _ hx)⟩
theorem KeysOk.put {H : Hp} {kvs : List NE} {k : NK} {b : Addr} {v : V} (h : KeysOk H kvs) (d : k.depth ≤ 8) (n : NAt H (.ref b) k) : KeysOk H (putN kvs k b v) := by
  intro e he
  unfold putN at he
  split at he
  · obtain ⟨x, hx, rfl⟩ := List.mem_map.mp he
    have z := h x hx
    by_cases c : x.1 = k
    · rw [if_pos c]; exact z
    · rw [if_neg c]; exact z
  · rcases List.mem_append.mp he with he | he
    · exact h e he
    · rw [List.mem_singleton.mp he]; exact ⟨d, n⟩
theorem txn_dn {w : World} {H : Hp} {D : Addr} {kvs : List NE} {o : HO} (h : H D = some (dN w D kvs)) : TxN H (upd H D o) := fun c ys ec => by rw [upd_ne (ne_of ec h (by intro z; cases z))]; exact ec
theorem dcn_enum {w : World} {K : PySem.W.Frag} {σ : L2.St} {H : Hp} {a : Addr} {xs : List V} {vs : List Nat} {g : TG} {t : TT} {tk tv : TE} {ta : TA} {Q : VK} (hv : ∀ R : List V → Hp → Prop, R [.ref a] H → ta σ H R) (hx : SqL K H a xs) (Pv : Addr → Nat → Hp → Prop) (h0 : ∀ D, H D = none → Pv D 0 (upd H D (dN w D []))) (hG : ∀ D i Ha, i ≤ xs.length → Pv D i Ha → SqL K Ha a xs)
    (hs : ∀ D i x Ha T, xs[i]? = some x → Pv D i Ha → Ha T = none → g (.ref T) (wipe σ vs) (upd Ha T (.tup [.int (i : Int), x])) fun σ2 Hc => wipe σ2 vs = wipe σ vs ∧ t σ2 Hc fun b Hd =>
      if b = true then tk σ2 Hd fun y He => tv σ2 He fun z Hf => sN w D y z Hf (Pv D (i + 1)) else Pv D (i + 1) Hd) (hd : ∀ D Ha, Pv D xs.length Ha → Q (.ref D) Ha) : tDcN w (iEnum K ta) g t tk tv vs σ H Q :=
  hv _ ⟨a, xs, rfl, hx, fun D hD => dcN_it (walk_enum (K := K) (a := a) (xs := xs)) (Pv D) (h0 D hD) (hG D) (fun i x Ha Hb _ p y => by
    obtain ⟨T, u, v, rfl, h2, rfl, h4, h5⟩ := y
    cases h4
    exact hs D i v Ha T h5 p h2) (hd D)⟩
end AE

set_option Elab.async false
set_option linter.all false
set_option maxRecDepth 100000
set_option maxHeartbeats 2000000
/-! dicts whose keys are tuples, those that are known to bear no dict too -/
namespace AE
open PySem PySem.Spec PyProof.Rows L2 Evl
/-- the tuple at b is the key k -/
def KeyIs (H : Hp) (b : Addr) (k : NK) : Prop := ∃ xs ks, k = .tup ks ∧ Rd H b (.tup xs) ∧ NAts H xs ks
/-- tuples stay, frozen or not -/
def TxR (H H' : Hp) : Prop := ∀ b xs, Rd H b (.tup xs) → Rd H' b (.tup xs)
theorem txr_ex {H H' : Hp} (e : Ex H H') : TxR H H' := fun b xs h => h.imp (fun z => e _ _ z) fun z => z.elim fun o z => ⟨o, e _ _ z⟩
theorem TxR.txn {H H' : Hp} (n : TxN H H') (e : TxR H H') {b : Addr} {k : NK} (h : KeyIs H b k) : KeyIs H' b k := by
  obtain ⟨xs, ks, rfl, r, t⟩ := h
  exact ⟨xs, ks, rfl, e _ _ r, t.tx n⟩
theorem KeyIs.ex {H H' : Hp} {b : Addr} {k : NK} (e : Ex H H') (h : KeyIs H b k) : KeyIs H' b k := TxR.txn (ex_txn e) (txr_ex e) h
theorem KeyIs.of {H : Hp} {b : Addr} {ks : List NK} (h : NAt H (.ref b) (.tup ks)) : KeyIs H b (.tup ks) := by
  obtain ⟨a, xs, e, h1, h2⟩ := h.tupOf
  cases e
  exact ⟨xs, ks, rfl, .inl h1, h2⟩
theorem nats_ints {H : Hp} : ∀ ms : List Int, NAts H (ms.map V.int) (ms.map NK.int)
  | [] => .nil
  | m :: ms => .cons (.int m) (nats_ints ms)
theorem KeyIs.ints {H : Hp} {b : Addr} {ms : List Int} (h : TupF H b (ms.map V.int)) : KeyIs H b (.tup (ms.map NK.int)) := h.elim fun o z => ⟨_, _, rfl, .inr ⟨o, z.2.2⟩, nats_ints ms⟩
theorem keyis {P : Program} {w : World} {H : Hp} {h : Heap} (ok : HOk P w H h) {b : Addr} {k : NK} (q : KeyIs H b k) : IsNK h k (.ref b) := by
  obtain ⟨xs, ks, rfl, r, t⟩ := q
  obtain ⟨_, its, rv, hT⟩ := (show ObjOk P w H h b (.tup xs) from r.ok ok)
  exact .tup hT (by simpa using nats_is ok t rv)
/-- the keys stand as they are said to -/
def KeyOkF (H : Hp) (e : NE) : Prop := e.1.depth ≤ 8 ∧ KeyIs H e.2.1 e.1
def KeysOkF (H : Hp) (kvs : List NE) : Prop := ∀ e ∈ kvs, KeyOkF H e
theorem KeysOkF.tx {H H' : Hp} {kvs : List NE} (n : TxN H H') (e : TxR H H') (h : KeysOkF H kvs) : KeysOkF H' kvs := fun x hx => ⟨(h x hx).1, TxR.txn n e (h x hx).2⟩
section
variable {P : Program} {w : World} {H : Hp} {h : Heap} {a : Addr}
theorem key_isF (ok : HOk P w H h) {e : NE} (k : KeyOkF H e) : (nkKind P w).is h e.1 e.2.1 := ⟨k.1, keyis ok k.2⟩
theorem dn_rdF {kvs : List NE} (ok : HOk P w H h) (e : Rd H a (dN w a kvs)) (hk : KeysOkF H kvs) : kvs.length ≤ sizeLine ∧ (a == sysModules) = false ∧
    ∃ xs, NR kvs xs ∧ h.DictOfH (nkKind P w) a xs := by
  have q := e.ok ok
  obtain ⟨⟨z, y, xs, r, o, es, ep, ho, hx, hd, he, hn⟩, _⟩ := q
  refine ⟨z, y, xs, r, o, es, ep, ho, hx, hd, he, fun x hx => ?_, hn⟩
  have all : ∀ {l : List NE} {m : List (NK × Addr × Value)}, KeysOkF H l → NR l m → ∀ x ∈ m, (nkKind P w).is h x.1 x.2.1 := by
    intro l m hk q
    induction q with
    | nil => intro x hx; exact nomatch hx
    | @cons p q ps qs hq t ih =>
      intro x hx
      rcases List.mem_cons.mp hx with e | hx
      · subst e
        have := key_isF ok (hk p (List.mem_cons_self ..))
        rw [hq.1, hq.2.1] at this
        exact this
      · exact ih (fun e he => hk e (List.mem_cons_of_mem _ he)) x hx
  exact all hk r x hx
end
/-- a read of the dict at a by the key y -/
def NGetF (w : World) (H : Hp) (a : Addr) (y : V) (o : Option V) : Prop := ∃ kvs k b, Rd H a (dN w a kvs) ∧ KeysOkF H kvs ∧ y = .ref b ∧ k.depth ≤ 8 ∧ KeyIs H b k ∧ o = valN kvs k
def NPutF (w : World) (H : Hp) (a : Addr) (y v : V) (H' : Hp) : Prop := ∃ kvs k b, H a = some (dN w a kvs) ∧ KeysOkF H kvs ∧ y = .ref b ∧ k.depth ≤ 8 ∧ KeyIs H b k ∧ kvs.length < sizeLine ∧ H' = upd H a (dN w a (putN kvs k b v))
section
variable {X : Cx} {pins : List (Addr × Obj)} {σ : L2.St} {H : Hp} {s : Shared} {a : Addr} {y v d : V} {u r : Value} {o : Option V} {A : Around} {E : Value → Shared → Prop}
theorem n_getItemF {Q : Value → Shared → Prop} (hu : A.units + 64 < cLine) (I : Inv X pins σ H s) (g : NGetF X.w H a y (some v)) (ry : RelV y u) (h : ∀ w' s', Inv X pins σ H s' → RelV v w' → Q w' s') :
    wpAny (model X.prog X.w) A (getItem (.ref a) u) Q E s := by
  obtain ⟨kvs, k, b, e, hk, ey, dk, eb, l⟩ := g
  subst ey
  cases (show u = Value.ref b from ry)
  obtain ⟨z, hd, xs, rel, dd⟩ := dn_rdF I.hok e hk
  obtain ⟨w', hw, rw'⟩ := RelO.some_of (v := v) (o := (atKey xs k).map (·.2)) (by rw [l]; exact rel.val k)
  obtain ⟨p, hp, hp2⟩ := Option.map_eq_some_iff.mp hw
  refine wpAny_getItem_heap (nk_room hu) ⟨dk, keyis I.hok eb⟩ dd hp ?_
  rw [hp2]
  exact h w' _ (I.tok _) rw'
theorem n_inF {Q : Value → Shared → Prop} (hu : A.units + 64 < cLine) (I : Inv X pins σ H s) (g : NGetF X.w H a y o) (ry : RelV y u) (h : ∀ s', Inv X pins σ H s' → Q (.bool o.isSome) s') :
    wpAny (model X.prog X.w) A (compareOp .In u (.ref a)) Q E s := by
  obtain ⟨kvs, k, b, e, hk, ey, dk, eb, l⟩ := g
  subst ey
  cases (show u = Value.ref b from ry)
  obtain ⟨z, hd, xs, rel, dd⟩ := dn_rdF I.hok e hk
  refine wpAny_in_heap (nk_room hu) ⟨dk, keyis I.hok eb⟩ hd dd ?_
  have q := (rel.val k).isSome_eq
  rw [Option.isSome_map] at q
  rw [← q, ← l]
  exact h _ (I.tok _)
theorem n_notInF {Q : Value → Shared → Prop} (hu : A.units + 64 < cLine) (I : Inv X pins σ H s) (g : NGetF X.w H a y o) (ry : RelV y u) (h : ∀ s', Inv X pins σ H s' → Q (.bool (!o.isSome)) s') :
    wpAny (model X.prog X.w) A (compareOp .NotIn u (.ref a)) Q E s := by
  obtain ⟨kvs, k, b, e, hk, ey, dk, eb, l⟩ := g
  subst ey
  cases (show u = Value.ref b from ry)
  obtain ⟨z, hd, xs, rel, dd⟩ := dn_rdF I.hok e hk
  refine wpAny_notIn_heap (nk_room hu) ⟨dk, keyis I.hok eb⟩ hd dd ?_
  have q := (rel.val k).isSome_eq
  rw [Option.isSome_map] at q
  rw [← q, ← l]
  exact h _ (I.tok _)
theorem n_setItemF {H' : Hp} {Q : Unit → Shared → Prop} (hu : A.units + 64 < cLine) (I : Inv X pins σ H s) (g : NPutF X.w H a y v H') (ry : RelV y u) (rv : RelV v r) (h : ∀ s', Inv X pins σ H' s' → Q () s') :
    wpAny (model X.prog X.w) A (setItem (.ref a) u r) Q E s := by
  obtain ⟨kvs, k, b, e, hk, ey, dk, eb, l, eH⟩ := g
  subst ey eH
  cases (show u = Value.ref b from ry)
  obtain ⟨z, hd, xs, rel, dd⟩ := dn_rdF I.hok (.inl e) hk
  have hz : xs.length ≤ sizeLine := by rw [← Paired.length rel]; exact z
  have hl : (putN kvs k b v).length ≤ sizeLine := by have := length_putN kvs k b v; omega
  refine wpAny_setItem_heap (hsz := hz) (nk_room hu) ⟨dk, keyis I.hok eb⟩ dd fun h' dd' hs => h _ ?_
  have he : ∃ q, h'.get? a = some q := let ⟨q, _, _, hq, _⟩ := dd'; ⟨q, hq⟩
  exact d_write I (by rw [e]; exact True.intro) hs he (dn_after hl hd (rel.put k b rv) dd')
theorem n_get2F {Q : Value → Shared → Prop} (hu : A.units + 64 < cLine) (I : Inv X pins σ H s) (g : NGetF X.w H a y o) (ry : RelV y u) (rd : RelV d r) (h : ∀ w' s', Inv X pins σ H s' → RelV (o.getD d) w' → Q w' s') :
    wpAny (model X.prog X.w) A (call (.builtin "dict.get") [.ref a, u, r]) Q E s := by
  obtain ⟨kvs, k, b, e, hk, ey, dk, eb, l⟩ := g
  subst ey
  cases (show u = Value.ref b from ry)
  obtain ⟨z, hd, xs, rel, dd⟩ := dn_rdF I.hok e hk
  refine call_meetsIn PySem.F.slot_dict_get dd.typeIs PySem.F.entry_dict_get (PySem.F.args_dict_get_3 _ _ _) (meetsH_dict_get_default (nkKind X.prog X.w) a b hd r) ⟨nk_room hu, k, xs, ⟨dk, keyis I.hok eb⟩, dd, h _ _ (I.tok _) ?_⟩
  rw [l]
  exact (rel.val k).getD rd
theorem n_setdF {kvs : List NE} {k : NK} {b : Addr} {Q : Value → Shared → Prop} (hu : A.units + 64 < cLine) (I : Inv X pins σ H s) (hD : H a = some (dN X.w a kvs)) (hk : KeysOkF H kvs) (dk : k.depth ≤ 8) (eb : KeyIs H b k) (hl : kvs.length < sizeLine)
    (rv : RelV v r) (h1 : ∀ x, valN kvs k = some x → ∀ w1 s1, Inv X pins σ H s1 → RelV x w1 → Q w1 s1) (h2 : valN kvs k = none → ∀ s1, Inv X pins σ (upd H a (dN X.w a (putN kvs k b v))) s1 → Q r s1) :
    wpAny (model X.prog X.w) A (call (.builtin "dict.setdefault") [.ref a, .ref b, r]) Q E s := by
  obtain ⟨_, hd, xs, rel, dd⟩ := dn_rdF I.hok (.inl hD) hk
  have hx : xs.length ≤ sizeLine := by
    have e := Paired.length rel
    omega
  have hz : (putN kvs k b v).length ≤ sizeLine := Nat.le_trans (length_putN kvs k b v) (by omega)
  refine call_setdefault_heap (knd := nkKind X.prog X.w) (hsz := hx) (nk_room hu) ⟨dk, keyis I.hok eb⟩ hd dd (fun p hp => ?_) fun hn h' dd1 hs => ?_
  · have q := rel.val k
    rw [hp] at q
    cases q0 : valN kvs k with
    | none => rw [q0] at q; exact q.elim
    | some x => rw [q0] at q; exact h1 x q0 _ _ (I.tok _) q
  · have q := rel.val k
    rw [hn] at q
    cases q0 : valN kvs k with
    | some x => rw [q0] at q; exact q.elim
    | none =>
      refine h2 q0 _ ?_
      have he : ∃ q, h'.get? a = some q := let ⟨q, _, _, hq, _⟩ := dd1; ⟨q, hq⟩
      exact d_write I (by rw [hD]; trivial) hs he (dn_after hz hd (rel.put k b rv) dd1)
end
def tNGetF (w : World) (td ty : TE) : TE := fun σ H Q => td σ H fun x H1 => ty σ H1 fun y H2 => ∃ a v, x = .ref a ∧ NGetF w H2 a y (some v) ∧ Q v H2
def tNInF (w : World) (ty td : TE) : TE := fun σ H Q => ty σ H fun y H1 => td σ H1 fun x H2 => ∃ a o, x = .ref a ∧ NGetF w H2 a y o ∧ Q (.bl o.isSome) H2
def tNNotInF (w : World) (ty td : TE) : TE := fun σ H Q => ty σ H fun y H1 => td σ H1 fun x H2 => ∃ a o, x = .ref a ∧ NGetF w H2 a y o ∧ Q (.bl (!o.isSome)) H2
def sNPutF (w : World) (td ty tv : TE) : TS := fun D σ H => tv σ H fun v H1 => td σ H1 fun x H2 => ty σ H2 fun y H3 => ∃ a H4, x = .ref a ∧ NPutF w H3 a y v H4 ∧ D.nx σ H4
def tNGet2F (w : World) (td ty tx : TE) : TE := fun σ H Q => td σ H fun x H1 => ∃ a, x = .ref a ∧ IsN w H1 a ∧ ty σ H1 fun y H2 => tx σ H2 fun z H3 => ∃ o, NGetF w H3 a y o ∧ Q (o.getD z) H3
def tSetdNF (w : World) (td ty tx : TE) : TE := fun σ H Q => td σ H fun x Ha => ∃ a, x = .ref a ∧ IsN w Ha a ∧ ty σ Ha fun y Hb => tx σ Hb fun z Hc => ∃ (kvs : List NE) (k : NK) (b : Addr), Hc a = some (dN w a kvs) ∧ KeysOkF Hc kvs ∧ y = .ref b ∧ k.depth ≤ 8 ∧ KeyIs Hc b k ∧ kvs.length < sizeLine ∧
  (∀ v, valN kvs k = some v → Q v Hc) ∧ (valN kvs k = none → Q z (upd Hc a (dN w a (putN kvs k b z))))
section
variable {X : Cx} {o i e f value : Expr} {pos pos' tpos apos cpos : Pos} {td ty tv tx : TE}
theorem pe_ngetF (hu : X.A.units + 64 < cLine) (ho : PE X o td) (hi : PE X i ty) (hs : NoSl i) : PE X (.Subscript o i pos) (tNGetF X.w td ty) := by
  refine ⟨fun pins s σ H Q I h => ?_⟩
  refine subD_of PySem.F.slot_dict_getitem.lookup hs (thn (ho.run pins s σ H _ I h) fun u s1 ⟨x, H1, I1, rx, q1⟩ => thn (hi.run pins s1 σ H1 _ I1 q1) fun iv s2 ⟨y, H2, I2, ry, a, v, ex, g, q2⟩ => ?_)
  subst ex
  obtain rfl : u = Value.ref a := rx
  have dd := isN_at I2 (let ⟨kvs, _, _, e, _⟩ := g; ⟨kvs, e⟩)
  exact ⟨dd.1, n_getItemF hu I2 g ry fun w' s3 I3 rw' => ⟨v, H2, I3, rw', q2⟩⟩
theorem pc_ninF (hu : X.A.units + 64 < cLine) (hi : PE X i ty) (ho : PE X o td) : PC X .In i o (tNInF X.w ty td) := by
  refine ⟨fun pins s σ H Q I h => ?_⟩
  refine thn (hi.run pins s σ H _ I h) fun iv s1 ⟨y, H1, I1, ry, q1⟩ => thn (ho.run pins s1 σ H1 _ I1 q1) fun u s2 ⟨x, H2, I2, rx, a, ov, ex, g, q2⟩ => ?_
  subst ex
  obtain rfl : u = Value.ref a := rx
  exact n_inF hu I2 g ry fun s3 I3 => ⟨.bl ov.isSome, H2, I3, rfl, q2⟩
theorem pc_nnotinF (hu : X.A.units + 64 < cLine) (hi : PE X i ty) (ho : PE X o td) : PC X .NotIn i o (tNNotInF X.w ty td) := by
  refine ⟨fun pins s σ H Q I h => ?_⟩
  refine thn (hi.run pins s σ H _ I h) fun iv s1 ⟨y, H1, I1, ry, q1⟩ => thn (ho.run pins s1 σ H1 _ I1 q1) fun u s2 ⟨x, H2, I2, rx, a, ov, ex, g, q2⟩ => ?_
  subst ex
  obtain rfl : u = Value.ref a := rx
  exact n_notInF hu I2 g ry fun s3 I3 => ⟨.bl (!ov.isSome), H2, I3, rfl, q2⟩
theorem ps_nputF (hu : X.A.units + 64 < cLine) (ho : PE X o td) (hi : PE X i ty) (hv : PE X value tv) (hs : swapsWith value (some (.Subscript o i pos')) pos.line X.env = pure false) :
    PS X (.Assign [.Subscript o i pos'] value pos) (sNPutF X.w td ty tv) := by
  refine ⟨fun pins s σ H D I h => ?_⟩
  refine wpAny_Assign_Subscript (thn (hv.run pins s σ H _ I h) fun r s1 ⟨v, H1, I1, rv, q1⟩ => thn (ho.run pins s1 σ H1 _ I1 q1) fun u s2 ⟨x, H2, I2, rx, q2⟩ => thn (hi.run pins s2 σ H2 _ I2 q2) fun iv s3 ⟨y, H3, I3, ry, a, H4, ex, g, q3⟩ => ?_) hs
  subst ex
  obtain rfl : u = Value.ref a := rx
  exact n_setItemF hu I3 g ry rv fun s4 I4 => ⟨σ, H4, I4, q3⟩
theorem pe_nget2F (hu : X.A.units + 64 < cLine) (ho : PE X o td) (he : PE X e ty) (hf : PE X f tx) (m : M2 X o "get" apos e f cpos) : PE X (.Call (.Attribute o "get" apos) [e, f] [] cpos) (tNGet2F X.w td ty tx) := by
  refine ⟨fun pins s σ H Q I h => ?_⟩
  refine wpAny_Call_method m.base m.few m.line PySem.F.plainAttrs_dict PySem.F.slot_dict_get PySem.F.type_dict_get (thn (ho.run pins s σ H _ I h) fun u s1 ⟨x, H1, I1, rx, a, ex, d, q1⟩ => ?_)
  subst ex
  obtain rfl : u = Value.ref a := rx
  obtain ⟨t1, t2, _⟩ := isN_at I1 d
  refine ⟨t1, t2, ?_⟩
  rw [m.trees]
  refine Calls.callWith_builtin rfl (Calls.evalArgs_plain (Calls.spliced_cons (thn (he.run pins s1 σ H1 _ I1 q1) fun iv s2 ⟨y, H2, I2, ry, q2⟩ =>
    Calls.spliced_cons (thn (hf.run pins s2 σ H2 _ I2 q2) fun fv s3 ⟨z, H3, I3, rz, ov, g, q3⟩ => Calls.spliced_nil ?_))))
  exact n_get2F hu I3 g ry rz fun w' s4 I4 rw' => ⟨_, H3, I4, rw', q3⟩
theorem pe_setdNF (hu : X.A.units + 64 < cLine) (ho : PE X o td) (he : PE X e ty) (hf : PE X f tx) (m : M2 X o "setdefault" apos e f cpos) : PE X (.Call (.Attribute o "setdefault" apos) [e, f] [] cpos) (tSetdNF X.w td ty tx) := by
  refine ⟨fun pins s σ H Q I h => ?_⟩
  refine wpAny_Call_method m.base m.few m.line PySem.F.plainAttrs_dict PySem.F.slot_dict_setdefault PySem.F.type_dict_setdefault (thn (ho.run pins s σ H _ I h) fun u sa ⟨x, Ha, Ia, rx, a, ex, d, q1⟩ => ?_)
  subst ex
  cases rx
  obtain ⟨t1, t2, _⟩ := isN_at Ia d
  refine ⟨t1, t2, ?_⟩
  rw [m.trees]
  refine Calls.callWith_builtin rfl (Calls.evalArgs_plain (Calls.spliced_cons (thn (he.run pins sa σ Ha _ Ia q1) fun iv sb ⟨y, Hb, Ib, ry, q2⟩ => Calls.spliced_cons (thn (hf.run pins sb σ Hb _ Ib q2) fun fv sc hc => Calls.spliced_nil ?_))))
  obtain ⟨z, Hc, Ic, rz, kvs, k, b, ea, hk, ey, dk, eb, hl, q3, q4⟩ := hc
  subst ey
  cases ry
  exact n_setdF hu Ic ea hk dk eb hl rz (fun v hv w1 s1 I1 r1 => ⟨v, _, I1, r1, q3 v hv⟩) fun hn s1 I1 => ⟨z, _, I1, rz, q4 hn⟩
end
end AE

set_option Elab.async false
set_option linter.all false
set_option maxRecDepth 100000
set_option maxHeartbeats 2000000
/-! comprehensions with any number of «for»: the loops within -/
namespace AE
open PySem PySem.Spec PyProof.Rows L2 Evl
section
variable {prog : Program} {w : World} {A : Around} {R : Result → Shared → Prop} {s : Shared} {elt kx vx : Expr} {gens : List Comprehension} {scope : Scope} {pos : Pos} {it acc : Value} {env : Env}
abbrev Tests (ifs : List Expr) (env : Env) : Sem Bool := forIn ifs true fun c r => if r = true then do let ok ← isTrue c env (eval c env); pure (ForInStep.yield ok) else pure (ForInStep.yield r)
/-- a turn: the target is stored and the tests are asked, then comes `more` -/
def TurnW (prog : Program) (w : World) (A : Around) (R : Result → Shared → Prop) (t0 : Expr) (ifs0 : List Expr) (it : Value) (env : Env) (more : (Shared → Prop) → (Value → Shared → Prop) → Shared → Prop) (Next : Shared → Prop) : Shared → Prop := fun s =>
  let N : Value → Shared → Prop := notedBy (model prog w) A env fun e s' => R (.error e) s'
  wpAny (model prog w) A (pyNext it) (fun r s1 => match r with
    | none => R (.ok .next) s1
    | some v => wpAny (model prog w) A (letOwnedTupleGo t0 it v) (fun _ s2 => wpAny (model prog w) A (assign t0 env v) (fun _ s3 => wpAny (model prog w) A (Tests ifs0 env) (fun ok s4 => if ok = true then more Next N s4 else Next s4) N s3) N s2) N s1) N s
/-- what comes then: the next «for» -/
def MoreW (prog : Program) (w : World) (A : Around) (e : Expr) (d : Nat) (i1 : Expr) (acc : Value) (env : Env) : (Shared → Prop) → (Value → Shared → Prop) → Shared → Prop := fun Next N s =>
  wpAny (model prog w) A (eval i1 env) (fun x s4 => wpAny (model prog w) A (pyIter x) (fun it1 s5 =>
    codeAny (model prog w) A (.compStart e (d + 1) it1 acc env) (fun r s' => match r with | .ok _ => Next s' | .error _ => False) s5) N s4) N s
/-- .. or an item of the list -/
def ItemL (prog : Program) (w : World) (A : Around) (elt : Expr) (acc : Value) (env : Env) : (Shared → Prop) → (Value → Shared → Prop) → Shared → Prop := fun Next N s =>
  wpAny (model prog w) A (eval elt env) (fun x s4 => wpAny (model prog w) A (call (.builtin "list.append") [acc, x]) (fun _ s5 => Next s5) N s4) N s
/-- .. or an item of the dict -/
def ItemD (prog : Program) (w : World) (A : Around) (kx vx : Expr) (D : Addr) (env : Env) : (Shared → Prop) → (Value → Shared → Prop) → Shared → Prop := fun Next N s =>
  wpAny (model prog w) A (eval kx env) (fun kv s4 => wpAny (model prog w) A (eval vx env) (fun vv s5 => wpAny (model prog w) A (dictSet D kv vv) (fun _ s6 => Next s6) N s5) N s4) N s
/-- one loop of a comprehension -/
structure Eng (prog : Program) (w : World) (A : Around) (e : Expr) (gens : List Comprehension) (acc : Value) (env : Env) (item : (Shared → Prop) → (Value → Shared → Prop) → Shared → Prop) : Prop where
  last : ∀ {R : Result → Shared → Prop} {it : Value} {t0 i0 : Expr} {ifs0 : List Expr} (d : Nat), gens[d]? = some ⟨t0, i0, ifs0, 0⟩ → gens[d + 1]? = none → ∀ (I : Nat → Shared → Prop), (∀ n s, I n s → TurnW prog w A R t0 ifs0 it env item (fun s' => ∃ m, m < n ∧ I m s') s) → ∀ n s, I n s → codeAny (model prog w) A (.compLoop e d it acc env) R s
  more : ∀ {R : Result → Shared → Prop} {it : Value} {t0 i0 t1 i1 : Expr} {ifs0 ifs1 : List Expr} (d : Nat), gens[d]? = some ⟨t0, i0, ifs0, 0⟩ → gens[d + 1]? = some ⟨t1, i1, ifs1, 0⟩ → (∀ x, foldedSetIterable i1 env x = pure x) → ∀ (I : Nat → Shared → Prop), (∀ n s, I n s → TurnW prog w A R t0 ifs0 it env (MoreW prog w A e d i1 acc env) (fun s' => ∃ m, m < n ∧ I m s') s) → ∀ n s, I n s → codeAny (model prog w) A (.compLoop e d it acc env) R s
  start : ∀ {R : Result → Shared → Prop} {it : Value} {t0 i0 : Expr} {ifs0 : List Expr} {s : Shared} (d : Nat), gens[d]? = some ⟨t0, i0, ifs0, 0⟩ → 0 < d → codeAny (model prog w) A (.compLoop e d it acc env) R s → wpAny (model prog w) A (pyIter it) (fun it' s' => codeAny (model prog w) A (.compLoop e d it' acc env) R s') (notedBy (model prog w) A env fun x s' => R (.error x) s') s → codeAny (model prog w) A (.compStart e d it acc env) R s
theorem engL : Eng prog w A (.ListComp elt gens scope pos) gens acc env (ItemL prog w A elt acc env) where
  last := fun {R it t0 i0 ifs0} d h0 h1 I turn n s h => by
    refine codeAny_loop rfl I (fun n s hI => ?_) n h
    show wpAny _ A ((compTurn (.ListComp elt gens scope pos) d it acc env).onRaise (fun z => do noteFrame z env; theTreesLotGoes z)) _ _ s
    refine wpAny_noted ?_
    unfold compTurn
    simp only [h0, h1]
    refine wpAny_bind (wpAny_standAt (wpAny_bind (wpAny_mono (turn n s hI) (fun r sa ha => ?_) fun _ _ z => z)))
    cases r with
    | none => exact wpAny_pure ha
    | some v =>
      refine wpAny_bind (wpAny_mono ha (fun _ sb hb => ?_) fun _ _ z => z)
      refine wpAny_bind (wpAny_mono hb (fun _ sc hc => wpAny_bind (wpAny_mono hc (fun ok sd hd => ?_) fun _ _ z => z)) fun _ _ z => z)
      cases ok with
      | false => exact wpAny_pure ⟨rfl, hd⟩
      | true => exact wpAny_bind (wpAny_bind (wpAny_mono hd (fun x se he => wpAny_bind (wpAny_mono he (fun _ sf hf => wpAny_pure (wpAny_pure ⟨rfl, hf⟩)) fun _ _ z => z)) fun _ _ z => z))
  more := fun {R it t0 i0 t1 i1 ifs0 ifs1} d h0 h1 hs I turn n s h => by
    refine codeAny_loop rfl I (fun n s hI => ?_) n h
    show wpAny _ A ((compTurn (.ListComp elt gens scope pos) d it acc env).onRaise (fun z => do noteFrame z env; theTreesLotGoes z)) _ _ s
    refine wpAny_noted ?_
    unfold compTurn
    simp only [h0, h1]
    refine wpAny_bind (wpAny_standAt (wpAny_bind (wpAny_mono (turn n s hI) (fun r sa ha => ?_) fun _ _ z => z)))
    cases r with
    | none => exact wpAny_pure ha
    | some v =>
      refine wpAny_bind (wpAny_mono ha (fun _ sb hb => ?_) fun _ _ z => z)
      refine wpAny_bind (wpAny_mono hb (fun _ sc hc => wpAny_bind (wpAny_mono hc (fun ok sd hd => ?_) fun _ _ z => z)) fun _ _ z => z)
      cases ok with
      | false => exact wpAny_pure ⟨rfl, hd⟩
      | true =>
        refine wpAny_bind (wpAny_mono hd (fun x se he => ?_) fun _ _ z => z)
        refine wpAny_bind (wpAny_standAt (wpAny_bind (wpAny_of_eq (hs x) (wpAny_bind (wpAny_holding (wpAny_mono he (fun it1 sf hf => ?_) fun _ _ z => z))))))
        refine wpAny_bind (wpAny_runOwn ?_)
        rw [Around.mark_none]
        refine codeAny_mono hf fun r s' hr => ?_
        cases r with
        | ok f =>
          first
            | exact wpAny_pure ⟨rfl, hr⟩
            | exact wpAny_bind (wpAny_pure (wpAny_pure ⟨rfl, hr⟩))
        | error e => exact hr.elim
  start := fun {R it t0 i0 ifs0 s} d h0 d0 hA hB => by
    obtain ⟨k, rfl⟩ : ∃ k, d = k + 1 := ⟨d - 1, by omega⟩
    refine codeAny_of_tree ?_
    show wpAny _ _ ((compStart (.ListComp elt gens scope pos) (k + 1) it acc env).onRaise (fun z => do noteFrame z env; standAt theWindowsPlace)) _ _ s
    refine wpAny_notedAt ?_
    have hc : (clausesOf (.ListComp elt gens scope pos))[k + 1]? = some ⟨t0, i0, ifs0, 0⟩ := h0
    unfold compStart
    simp only [hc]
    show wpAny _ _ (ask >>= _) _ _ s
    refine wpAny_bind (wpAny_askSetting (wpAny_ite ?_))
    split
    · first
        | exact wpAny_bind (wpAny_pure (wpAny_pure (And.intro rfl hA)))
        | exact wpAny_pure (And.intro rfl hA)
    · first
        | exact wpAny_bind (wpAny_rule (wpAny_bind (wpAny_standAt (wpAny_bind (wpAny_mono hB (fun _ _ z => wpAny_pure (And.intro rfl z)) fun _ _ z => z)))))
        | (refine wpAny_bind (wpAny_rule ?_); show wpAny _ _ (standAt i0.pos >>= _) _ _ s; exact wpAny_bind (wpAny_standAt (wpAny_bind (wpAny_mono hB (fun _ _ z => wpAny_pure (And.intro rfl z)) fun _ _ z => z))))
theorem engD {D : Addr} : Eng prog w A (.DictComp kx vx gens scope pos) gens (.ref D) env (ItemD prog w A kx vx D env) where
  last := fun {R it t0 i0 ifs0} d h0 h1 I turn n s h => by
    refine codeAny_loop rfl I (fun n s hI => ?_) n h
    show wpAny _ A ((compTurn (.DictComp kx vx gens scope pos) d it (.ref D) env).onRaise (fun z => do noteFrame z env; theTreesLotGoes z)) _ _ s
    refine wpAny_noted ?_
    unfold compTurn
    simp only [h0, h1]
    refine wpAny_bind (wpAny_standAt (wpAny_bind (wpAny_mono (turn n s hI) (fun r sa ha => ?_) fun _ _ z => z)))
    cases r with
    | none => exact wpAny_pure ha
    | some v =>
      refine wpAny_bind (wpAny_mono ha (fun _ sb hb => ?_) fun _ _ z => z)
      refine wpAny_bind (wpAny_mono hb (fun _ sc hc => wpAny_bind (wpAny_mono hc (fun ok sd hd => ?_) fun _ _ z => z)) fun _ _ z => z)
      cases ok with
      | false => exact wpAny_pure ⟨rfl, hd⟩
      | true => exact wpAny_bind (wpAny_bind (wpAny_mono hd (fun ky se he => wpAny_bind (wpAny_holding (wpAny_mono he (fun vy sf hf => wpAny_bind (wpAny_standAt (wpAny_holding (wpAny_mono hf (fun _ sg hg => wpAny_pure ⟨rfl, hg⟩) fun _ _ z => z)))) fun _ _ z => z))) fun _ _ z => z))
  more := fun {R it t0 i0 t1 i1 ifs0 ifs1} d h0 h1 hs I turn n s h => by
    refine codeAny_loop rfl I (fun n s hI => ?_) n h
    show wpAny _ A ((compTurn (.DictComp kx vx gens scope pos) d it (.ref D) env).onRaise (fun z => do noteFrame z env; theTreesLotGoes z)) _ _ s
    refine wpAny_noted ?_
    unfold compTurn
    simp only [h0, h1]
    refine wpAny_bind (wpAny_standAt (wpAny_bind (wpAny_mono (turn n s hI) (fun r sa ha => ?_) fun _ _ z => z)))
    cases r with
    | none => exact wpAny_pure ha
    | some v =>
      refine wpAny_bind (wpAny_mono ha (fun _ sb hb => ?_) fun _ _ z => z)
      refine wpAny_bind (wpAny_mono hb (fun _ sc hc => wpAny_bind (wpAny_mono hc (fun ok sd hd => ?_) fun _ _ z => z)) fun _ _ z => z)
      cases ok with
      | false => exact wpAny_pure ⟨rfl, hd⟩
      | true =>
        refine wpAny_bind (wpAny_mono hd (fun x se he => ?_) fun _ _ z => z)
        refine wpAny_bind (wpAny_standAt (wpAny_bind (wpAny_of_eq (hs x) (wpAny_bind (wpAny_holding (wpAny_mono he (fun it1 sf hf => ?_) fun _ _ z => z))))))
        refine wpAny_bind (wpAny_runOwn ?_)
        rw [Around.mark_none]
        refine codeAny_mono hf fun r s' hr => ?_
        cases r with
        | ok f =>
          first
            | exact wpAny_pure ⟨rfl, hr⟩
            | exact wpAny_bind (wpAny_pure (wpAny_pure ⟨rfl, hr⟩))
        | error e => exact hr.elim
  start := fun {R it t0 i0 ifs0 s} d h0 d0 hA hB => by
    obtain ⟨k, rfl⟩ : ∃ k, d = k + 1 := ⟨d - 1, by omega⟩
    refine codeAny_of_tree ?_
    show wpAny _ _ ((compStart (.DictComp kx vx gens scope pos) (k + 1) it (.ref D) env).onRaise (fun z => do noteFrame z env; standAt theWindowsPlace)) _ _ s
    refine wpAny_notedAt ?_
    have hc : (clausesOf (.DictComp kx vx gens scope pos))[k + 1]? = some ⟨t0, i0, ifs0, 0⟩ := h0
    unfold compStart
    simp only [hc]
    show wpAny _ _ (ask >>= _) _ _ s
    refine wpAny_bind (wpAny_askSetting (wpAny_ite ?_))
    split
    · first
        | exact wpAny_bind (wpAny_pure (wpAny_pure (And.intro rfl hA)))
        | exact wpAny_pure (And.intro rfl hA)
    · first
        | exact wpAny_bind (wpAny_rule (wpAny_bind (wpAny_standAt (wpAny_bind (wpAny_mono hB (fun _ _ z => wpAny_pure (And.intro rfl z)) fun _ _ z => z)))))
        | (refine wpAny_bind (wpAny_rule ?_); show wpAny _ _ (standAt i0.pos >>= _) _ _ s; exact wpAny_bind (wpAny_standAt (wpAny_bind (wpAny_mono hB (fun _ _ z => wpAny_pure (And.intro rfl z)) fun _ _ z => z))))
end
end AE
namespace AE
open PySem PySem.Spec PyProof.Rows L2 Evl
/-- how the further «for» read: source, target, test, the names that their turns let go -/
structure GR where
  wi : TI
  g : TG
  tt : TT
  vs : List Nat
abbrev TItem := L2.St → Hp → (Hp → Prop) → Prop
def headV : List GR → List Nat
  | [] => []
  | r :: _ => r.vs
def Nested : List Nat → List GR → Prop
  | _, [] => True
  | V, r :: rs => (∀ i ∈ r.vs, i ∈ V) ∧ Nested r.vs rs
def tIn (em : TItem) : List GR → TItem
  | [] => em
  | r :: rs => fun σ H Nx => r.wi σ H fun J H1 => ∃ W : Nat → Nat → Hp → Prop, (∃ m, W 0 m H1) ∧ ∀ i m Ha, W i m Ha →
      (J.stop i Ha ∧ Nx Ha) ∨ (J.go i Ha ∧ ∃ N : Hp → Prop, (∀ Hb, N Hb → ∃ m', m' < m ∧ W (i + 1) m' Hb) ∧ ∀ x Hb, J.yld i Ha x Hb → r.g x (wipe σ r.vs) Hb fun σ2 Hc => wipe σ2 r.vs = wipe σ r.vs ∧ r.tt σ2 Hc fun b Hd => if b = true then tIn em rs σ2 Hd N else N Hd)
inductive GensOk (Y : Cx) : List Comprehension → List GR → Prop
  | nil : GensOk Y [] []
  | cons {tg iter : Expr} {ifs : List Expr} {r : GR} {gs : List Comprehension} {rs : List GR} (hi : PI Y tg iter r.wi) (hg : PG Y tg r.g) (ht : PTs Y ifs r.tt) (hs : ∀ x, foldedSetIterable iter Y.env x = pure x) (t : GensOk Y gs rs) : GensOk Y (⟨tg, iter, ifs, 0⟩ :: gs) (r :: rs)
/-- an item reads -/
def ItemOk (Y : Cx) (item : (Shared → Prop) → (Value → Shared → Prop) → Shared → Prop) (em : TItem) : Prop :=
  ∀ (pins : List (Addr × Obj)) (σ : L2.St) (H : Hp) (s : Shared) (Nx : Hp → Prop) (Next : Shared → Prop) (N : Value → Shared → Prop), Inv Y pins σ H s → em σ H Nx → (∀ H' s', Inv Y pins σ H' s' → Nx H' → Next s') → item Next N s
def StepW (prog : Program) (w : World) (A : Around) (e : Expr) (acc : Value) (env : Env) (item : (Shared → Prop) → (Value → Shared → Prop) → Shared → Prop) (d : Nat) : List Comprehension → (Shared → Prop) → (Value → Shared → Prop) → Shared → Prop
  | [] => item
  | g :: _ => MoreW prog w A e d g.iter acc env
section
variable {Y : Cx} {e : Expr} {gens : List Comprehension} {acc : Value} {item : (Shared → Prop) → (Value → Shared → Prop) → Shared → Prop} {em : TItem}
theorem drop_at {α : Type} {xs : List α} {d : Nat} {x : α} {r : List α} (h : xs.drop d = x :: r) : xs[d]? = some x ∧ xs.drop (d + 1) = r := by
  have a : (xs.drop d)[0]? = some x := by rw [h]; rfl
  rw [List.getElem?_drop] at a
  refine ⟨a, ?_⟩
  rw [← List.drop_drop, h]
  rfl
theorem Eng.loop {prog : Program} {w : World} {A : Around} {env : Env} (E : Eng prog w A e gens acc env item) {R : Result → Shared → Prop} {it : Value} {t0 i0 : Expr} {ifs0 : List Expr} {d : Nat} {gs : List Comprehension} (hd : gens.drop d = ⟨t0, i0, ifs0, 0⟩ :: gs) (hs : ∀ g1 ∈ gs, g1.is_async = 0 ∧ ∀ x, foldedSetIterable g1.iter env x = pure x)
    (I : Nat → Shared → Prop) (turn : ∀ n s, I n s → TurnW prog w A R t0 ifs0 it env (StepW prog w A e acc env item d gs) (fun s' => ∃ m, m < n ∧ I m s') s) (n : Nat) (s : Shared) (h : I n s) : codeAny (model prog w) A (.compLoop e d it acc env) R s := by
  obtain ⟨h0, h1⟩ := drop_at hd
  cases gs with
  | nil =>
    have z : gens[d + 1]? = none := by
      have a : (gens.drop (d + 1))[0]? = none := by rw [h1]; rfl
      rw [List.getElem?_drop] at a
      exact a
    exact E.last d h0 z I turn n s h
  | cons g gs =>
    obtain ⟨t1, i1, ifs1, as⟩ := g
    obtain ⟨a0, a1⟩ := hs _ (List.mem_cons_self ..)
    cases a0
    exact E.more d h0 (drop_at h1).1 a1 I turn n s h
theorem GensOk.src {gs : List Comprehension} {rs : List GR} (h : GensOk Y gs rs) : ∀ g1 ∈ gs, g1.is_async = 0 ∧ ∀ x, foldedSetIterable g1.iter Y.env x = pure x := by
  induction h with
  | nil => intro _ z; cases z
  | cons hi hg ht hs t ih =>
    intro g1 hg1
    rcases List.mem_cons.mp hg1 with rfl | z
    · exact ⟨rfl, hs⟩
    · exact ih g1 z
/-- one turn of a loop, the block's own or one within -/
theorem turn_ok {tg : Expr} {ifs : List Expr} {g : TG} {tt : TT} {J : It} {fp : List Addr} {it : Addr} {tn : Nat → Heap → Prop} {R : Result → Shared → Prop} {V : List Nat} {rs : List GR} {more : (Shared → Prop) → (Value → Shared → Prop) → Shared → Prop} {σ : L2.St} {pins : List (Addr × Obj)} {Next : Shared → Prop}
    (hxe : Y.xe = fun _ _ => False) (hc : Y.calm = true) (hg : PG Y tg g) (ht : PTs Y ifs tt) (T : Turn Y.prog Y.w Y.K tg J fp it tn) (hn : Nested V rs)
    (step : ∀ pins σ H s Nx Nt N, Inv Y pins σ H s → tIn em rs σ H Nx → (∀ H' s', Inv Y pins (wipe σ (headV rs)) H' s' → Nx H' → Nt s') → more Nt N s)
    {i : Nat} {H : Hp} {s : Shared} {W : Nat → Nat → Hp → Prop} {n : Nat} {Nx0 : Hp → Prop} (I : Inv Y pins (wipe σ V) H s) (st : tn i s.heap) (fo : ∀ b ∈ fp, FpOk Y pins H b)
    (q : (J.stop i H ∧ Nx0 H) ∨ (J.go i H ∧ ∃ N : Hp → Prop, (∀ Hb, N Hb → ∃ m', m' < n ∧ W (i + 1) m' Hb) ∧ ∀ x Hb, J.yld i H x Hb → g x (wipe σ V) Hb fun σ2 Hc => wipe σ2 V = wipe σ V ∧ tt σ2 Hc fun b Hd => if b = true then tIn em rs σ2 Hd N else N Hd))
    (hstop : ∀ s', Inv Y pins (wipe σ V) H s' → Nx0 H → R (.ok .next) s')
    (hnext : ∀ m' H' s', m' < n → Inv Y pins (wipe σ V) H' s' → tn (i + 1) s'.heap → (∀ b ∈ fp, H' b = none) → W (i + 1) m' H' → Next s') : TurnW Y.prog Y.w Y.A R tg ifs (.ref it) Y.env more Next s := by
  unfold TurnW
  rcases q with ⟨stop, fine⟩ | ⟨go, N, less, q⟩
  · refine thnF (T.done Y rfl rfl rfl hc i pins s _ H (fun _ _ => False) I fo st stop) fun r s6 ⟨hr, I6⟩ => ?_
    subst hr
    exact hstop s6 I6 fine
  · refine thnF (T.item Y rfl rfl rfl hc i pins s _ H (fun _ _ => False) I fo st go) fun r s6 ⟨u, hr, more6⟩ => ?_
    subst hr
    refine thnF more6 fun _ s7 ⟨x, H7, I7, rx, yx, st7, n7⟩ => ?_
    have fo7 : ∀ b ∈ fp, FpOk Y pins H7 b := fun b hb => ⟨n7 b hb, (fo b hb).2⟩
    have gr := hg.run _ s7 _ H7 x u _ (I7.pinned fo7 (T.obj _ _ st7)) rx (q x H7 yx)
    rw [hxe] at gr
    refine thnF gr fun _ s8 ⟨σ8, H8, I8, hw, q8⟩ => ?_
    have back : ∀ {σ9 : L2.St} {s9 : Shared} {H9 : Hp}, Inv Y (pins ++ pinsAt fp s7.heap) σ9 H9 s9 → (wipe σ V).length = σ9.length → (∀ (j : Nat) v, (wipe σ V)[j]? = some (some v) → σ9[j]? = some (some v)) → N H9 → Next s9 := fun {σ9 s9 H9} I9 hl hk nx => by
      obtain ⟨m1, l1, w1⟩ := less H9 nx
      have keep : ∀ b ∈ fp, ∀ o, s7.heap.get? b = some o → s9.heap.get? b = some o ∧ H9 b = none := fun b hb o e => by
        have z := I9.pin (b, o) (List.mem_append_right _ (List.mem_append_right _ (mem_pinsAt hb e)))
        exact ⟨z.1, z.2.1⟩
      refine hnext m1 H9 s9 l1 (I9.unpinned.weak hl hk) (T.keep _ _ _ st7 fun b hb o e => (keep b hb o e).1) (fun b hb => ?_) w1
      obtain ⟨o, e, _⟩ := T.obj _ _ st7 b hb
      exact (keep b hb o e).2
    have tr := ht.run _ s8 σ8 H8 _ I8 q8
    rw [hxe] at tr
    have k8 : ∀ (j : Nat) v, (wipe σ V)[j]? = some (some v) → σ8[j]? = some (some v) ∧ j ∉ V := fun j v z => by
      rw [← hw] at z
      exact wipe_some z
    refine thnF tr fun b s9 ⟨H9, I9, q9⟩ => ?_
    cases b with
    | false =>
      simp only [Bool.false_eq_true, if_false] at q9 ⊢
      exact back I9 (by rw [← hw, wipe_length]) (fun j v z => (k8 j v z).1) q9
    | true =>
      simp only [if_true] at q9 ⊢
      refine step _ _ _ _ N _ _ I9 q9 fun H' s' I' nx => back I' (by rw [← hw, wipe_length, wipe_length]) (fun j v z => ?_) nx
      obtain ⟨z1, z2⟩ := k8 j v z
      rw [wipe_out fun z3 => z2 ?_]
      · exact z1
      · cases rs with
        | nil => cases z3
        | cons r rs => exact hn.1 j z3
theorem inner (E : Eng Y.prog Y.w Y.A e gens acc Y.env item) (hxe : Y.xe = fun _ _ => False) (hc : Y.calm = true) (hI : ItemOk Y item em) :
    ∀ (rs : List GR) (V : List Nat) (gs : List Comprehension) (d : Nat), gens.drop (d + 1) = gs → GensOk Y gs rs → Nested V rs → ∀ pins σ H s Nx Next N, Inv Y pins σ H s → tIn em rs σ H Nx → (∀ H' s', Inv Y pins (wipe σ (headV rs)) H' s' → Nx H' → Next s') → StepW Y.prog Y.w Y.A e acc Y.env item d gs Next N s
  | [], V, gs, d, hd, hG, hn, pins, σ, H, s, Nx, Next, N, I, q, fin => by
    cases hG
    exact hI pins σ H s Nx Next N I q fin
  | r :: rs, V, gs, d, hd, hG, hn, pins, σ, H, s, Nx, Next, N, I, q, fin => by
    cases hG with
    | @cons tg iter ifs r gs rs hi hg ht hs t =>
    show MoreW Y.prog Y.w Y.A e d iter acc Y.env Next N s
    unfold MoreW
    have ir := hi.run pins s σ H _ I q
    rw [hxe] at ir
    refine thnF ir fun xv s1 hx => thnF hx fun itv s2 h2 => ?_
    obtain ⟨it1, fp1, tn1, J1, H1, e1, I1, T1, st1, f1, W1, ⟨m1, w1⟩, turn1⟩ := h2
    subst e1
    obtain ⟨h0, _⟩ := drop_at hd
    have loop : codeAny (model Y.prog Y.w) Y.A (.compLoop e (d + 1) (.ref it1) acc Y.env) (fun r s' => match r with | .ok _ => Next s' | .error _ => False) s2 := by
      refine E.loop hd t.src (fun k s' => ∃ j H', Inv Y pins (wipe σ r.vs) H' s' ∧ tn1 j s'.heap ∧ (∀ b ∈ fp1, H' b = none) ∧ W1 j k H') (fun k s' ⟨j, H', I', st', n', w'⟩ => ?_) m1 s2 ⟨0, H1, I1.weak (wipe_length _ _) (fun j v z => (wipe_some z).1), st1, fun b hb => (f1 b hb).1, w1⟩
      refine turn_ok (V := r.vs) (rs := rs) (Nx0 := Nx) (W := W1) hxe hc hg ht T1 hn.2 (inner E hxe hc hI rs r.vs gs (d + 1) (drop_at hd).2 t hn.2) I' st' (fun b hb => ⟨n' b hb, (f1 b hb).2⟩) (turn1 j k H' w') (fun s9 I9 nx => fin _ _ I9 nx) fun m' H9 s9 lt I9 st9 n9 w9 => ⟨m', lt, j + 1, H9, I9, st9, n9, w9⟩
    exact E.start (d + 1) h0 (Nat.succ_pos _) loop (T1.self Y.A 0 _ _ _ st1 loop)
end
end AE

set_option Elab.async false
set_option linter.all false
set_option maxRecDepth 100000
set_option maxHeartbeats 2000000
/-! dicts whose keys are None or nested tuples -/
namespace AE
open PySem PySem.Spec
section
variable {prog : Program} {w : World} {A : Around} {E : Value → Shared → Prop} {s : Shared}
abbrev VX := NK × Value × Value
def entV (w : World) (x : VX) : DictEntry := ⟨NK.hash w x.1, x.2.1, x.2.2⟩
/-- the key stands there, and is no text -/
def IsKV (h : Heap) (k : NK) (v : Value) : Prop := k.depth ≤ 8 ∧ IsNK h k v ∧ (k = .non ∨ ∃ ks, k = .tup ks)
theorem IsKV.eqB {s : Shared} {x y : NK} {a b : Value} {Q : Bool → Shared → Prop} (hu : A.units + 8 < cLine) (hx : IsKV s.heap x a) (hy : IsKV s.heap y b) (h : Q (decide (x = y)) s) : wpAny (model prog w) A (eqBool a b) Q E s :=
  nk_eqAt x y A s a b hx.2.1 hy.2.1 (by have := hx.1; omega) prog w E Q h
theorem mem_places {n : Nat} {f : Nat → Option Int} {h : Int} {j : Nat} : j ∈ placesWithHash n f h ↔ j < n ∧ (f j == some h) = true := by
  unfold placesWithHash
  rw [List.mem_filter, List.mem_range]
theorem places_nodup (n : Nat) (f : Nat → Option Int) (h : Int) : (placesWithHash n f h).Nodup := by
  unfold placesWithHash
  exact List.nodup_range.filter _
theorem tells_v {key : Value} {k : NK} {st : List Value} {Q : Bool → Shared → Prop} (hk : IsKV s.heap k key) (hst : ∀ v ∈ st, ∃ k', IsKV s.heap k' v) (h : Q false s) : wpAny (model prog w) A (tableMayTell key st) Q E s := by
  unfold tableMayTell
  by_cases z : st.isEmpty = true
  · rw [if_pos z]
    exact wpAny_pure h
  rw [if_neg z]
  apply wpAny_bind
  apply nk_quiet 8 k key hk.2.1 hk.1
  rw [if_neg (by decide)]
  apply wpAny_bind
  apply wpAny_forIn_list _ (fun rest r s' => s' = s ∧ r = (none, ()) ∧ ∀ v ∈ rest, ∃ k', IsKV s.heap k' v) _ ?_ ?_ _ _ ⟨rfl, rfl, hst⟩
  · rintro v rest r s' ⟨rfl, rfl, hr⟩
    obtain ⟨k', hv⟩ := hr v (List.mem_cons_self ..)
    apply wpAny_bind
    apply nk_quiet 8 k' v hv.2.1 hv.1
    rw [if_neg (by decide)]
    exact wpAny_pure ⟨rfl, rfl, fun x hx => hr x (List.mem_cons_of_mem _ hx)⟩
  · rintro r s' ⟨rfl, rfl, _⟩
    exact wpAny_pure h
theorem find_v {d : Addr} {o : Obj} {es : Array DictEntry} {ep : Nat} {xs : List VX} {k : NK} {key : Value} {Q : Option Nat → Shared → Prop} (hu : A.units + 8 < cLine) (hk : IsKV s.heap k key) (ob : s.heap.get? d = some o) (hda : o.data = .dict es ep)
    (he : es.toList = xs.map (entV w)) (his : ∀ x ∈ xs, IsKV s.heap x.1 x.2.1) (hn : (xs.map (·.1)).Nodup) (no : (∀ x ∈ xs, x.1 ≠ k) → Q none s) (yes : ∀ (j : Nat) (x : VX), xs[j]? = some x → x.1 = k → Q (some j) s) :
    wpAny (model prog w) A (dictFind d key (k.hash w)) Q E s := by
  have at_ : ∀ j : Nat, es[j]? = (xs[j]?).map (entV w) := fun j => by rw [← Array.getElem?_toList, he, List.getElem?_map]
  have sz : es.size = xs.length := by rw [← Array.length_toList, he, List.length_map]
  have hh : ∀ (j : Nat) (x : VX), xs[j]? = some x → x.1 = k → j ∈ placesWithHash es.size (fun i => es[i]?.map (·.hash)) (k.hash w) := fun j x hx e => by
    refine mem_places.mpr ⟨by rw [sz]; exact (List.getElem?_eq_some_iff.mp hx).1, ?_⟩
    rw [at_ j, hx, ← e]
    exact beq_self_eq_true _
  have nd := places_nodup es.size (fun i => es[i]?.map (·.hash)) (k.hash w)
  have inb : ∀ j ∈ placesWithHash es.size (fun i => es[i]?.map (·.hash)) (k.hash w), ∃ x, xs[j]? = some x ∧ es[j]? = some (entV w x) ∧ ((entV w x).hash == NK.hash w k) = true := fun j hj => by
    obtain ⟨h1, h2⟩ := mem_places.mp hj
    rw [sz] at h1
    refine ⟨xs[j], List.getElem?_eq_getElem h1, by rw [at_ j, List.getElem?_eq_getElem h1]; rfl, ?_⟩
    rw [at_ j, List.getElem?_eq_getElem h1] at h2
    exact h2
  have uni : ∀ (i j : Nat) (x y : VX), xs[i]? = some x → xs[j]? = some y → x.1 = k → y.1 = k → i = j := fun i j x y hi hj e1 e2 => by
    have a : (xs.map (·.1))[i]? = some k := by rw [List.getElem?_map, hi, ← e1]; rfl
    have b : (xs.map (·.1))[j]? = some k := by rw [List.getElem?_map, hj, ← e2]; rfl
    exact (List.getElem?_inj (List.getElem?_eq_some_iff.mp a).1 hn).mp (a.trans b.symm)
  have none_ : (∀ j ∈ placesWithHash es.size (fun i => es[i]?.map (·.hash)) (k.hash w), ∀ x, xs[j]? = some x → x.1 ≠ k) → Q none s := fun z => no fun x hx e => by
    obtain ⟨j, hj⟩ := List.getElem?_of_mem hx
    exact z j (hh j x hj e) x hj e
  have stored : ∀ v ∈ (placesWithHash es.size (fun i => es[i]?.map (·.hash)) (k.hash w)).filterMap (fun i => es[i]?.map (·.key)), ∃ k', IsKV s.heap k' v := fun v hv => by
    obtain ⟨j, hj, e⟩ := List.mem_filterMap.mp hv
    obtain ⟨x, hx, ex, _⟩ := inb j hj
    rw [ex] at e
    cases e
    exact ⟨x.1, his x (List.mem_of_getElem? hx)⟩
  have odd : ∀ a : Addr, key = .ref a → ¬ (es.any fun e => e.key == key && e.hash != k.hash w) = true := fun a ea z => by
    rw [← Array.any_toList, List.any_eq_true] at z
    obtain ⟨e, h1, h2⟩ := z
    rw [he] at h1
    obtain ⟨x, hx, rfl⟩ := List.mem_map.mp h1
    rw [Bool.and_eq_true] at h2
    have e1 : x.2.1 = key := eq_of_beq h2.1
    have h3 := (his x hx).2.1
    rw [e1] at h3
    have := IsNK.inj _ _ _ h3 hk.2.1
    have h4 : (NK.hash w x.1 != NK.hash w k) = true := h2.2
    rw [this] at h4
    simp at h4
  generalize hp : placesWithHash es.size (fun i => es[i]?.map (·.hash)) (k.hash w) = pl at nd inb none_ stored
  unfold dictFind
  try with_reducible apply wpAny_holding
  apply wpAny_bind
  apply wpAny_dictEntries ob hda
  dsimp only
  rw [hp]
  generalize hs : pl.filterMap (fun i => es[i]?.map (·.key)) = st at stored ⊢
  have plain : wpAny (model prog w) A (dictWalkPlain d key (k.hash w) es pl) Q E s := by
    unfold dictWalkPlain
    apply wpAny_bind
    apply wpAny_forIn_list _ (fun rest r s' => s' = s ∧ r = (none, ()) ∧ ∃ done, pl = done ++ rest ∧ ∀ j ∈ done, ∀ x, xs[j]? = some x → x.1 ≠ k) _ ?_ ?_ _ _ ⟨rfl, rfl, [], rfl, fun _ z => nomatch z⟩
    · rintro j rest r s' ⟨rfl, rfl, done, hd1, hd2⟩
      obtain ⟨x, hx, ex, hhx⟩ := inb j (by rw [hd1]; exact List.mem_append_right _ (List.mem_cons_self ..))
      rw [ex]
      dsimp only
      rw [if_pos hhx]
      apply wpAny_bind
      apply wpAny_dictEpoch ob hda
      apply wpAny_bind
      apply IsKV.eqB hu (his x (List.mem_of_getElem? hx)) hk
      apply wpAny_bind
      apply wpAny_dictEpoch ob hda
      rw [if_neg (by simp)]
      by_cases e : x.1 = k
      · rw [decide_eq_true e, if_pos rfl]
        apply wpAny_bind
        apply wpAny_rule
        exact wpAny_pure (wpAny_pure (yes j x hx e))
      · rw [decide_eq_false e, if_neg (by decide)]
        apply wpAny_bind
        apply wpAny_rule
        refine wpAny_pure ⟨rfl, rfl, done ++ [j], by rw [hd1, List.append_assoc]; rfl, fun i hi y hy ey => ?_⟩
        rcases List.mem_append.mp hi with hi | hi
        · exact hd2 i hi y hy ey
        · rw [List.mem_singleton.mp hi, hx] at hy
          cases hy
          exact e ey
    · rintro r s' ⟨rfl, rfl, done, hd1, hd2⟩
      rw [List.append_nil] at hd1
      exact wpAny_pure (none_ (by rw [hd1]; exact hd2))
  obtain ⟨hk1, hk2, hk3⟩ := id hk
  cases hk2 with
  | int i t => rcases hk3 with z | ⟨_, z⟩ <;> cases z
  | str x t => rcases hk3 with z | ⟨_, z⟩ <;> cases z
  | non =>
    dsimp only
    by_cases hall : (Value.none :: st).all carriedByValue = true
    · rw [if_pos hall]
      exact plain
    rw [if_neg hall]
    by_cases z : (st == [Value.none]) = true
    all_goals first | rw [if_pos z] | rw [if_neg z]
    all_goals
      apply wpAny_bind
      first
        | refine wpAny_pure ?_
        | refine tells_v hk stored ?_
      rw [if_neg (by simp)]
      apply wpAny_bind
      apply wpAny_forIn_list _ (fun rest r s' => s' = s ∧ r.1 = none ∧ ∃ done, pl = done ++ rest ∧ ((r.2 = none ∧ ∀ j ∈ done, ∀ x, xs[j]? = some x → x.1 ≠ NK.non) ∨ ∃ j x, r.2 = some j ∧ j ∈ done ∧ xs[j]? = some x ∧ x.1 = NK.non)) _ ?_ ?_ _ _ ⟨rfl, rfl, [], rfl, .inl ⟨rfl, fun _ z => nomatch z⟩⟩
      · rintro j rest ⟨r1, r2⟩ s' ⟨rfl, er, done, hd1, hd2⟩
        cases (show r1 = none from er)
        obtain ⟨x, hx, ex, hhx⟩ := inb j (by rw [hd1]; exact List.mem_append_right _ (List.mem_cons_self ..))
        rw [ex]
        dsimp only
        rw [if_pos hhx]
        apply wpAny_bind
        apply wpAny_dictEpoch ob hda
        apply wpAny_bind
        apply IsKV.eqB hu (his x (List.mem_of_getElem? hx)) hk
        apply wpAny_bind
        apply wpAny_dictEpoch ob hda
        rw [if_neg (by simp)]
        by_cases e : x.1 = NK.non
        · rw [decide_eq_true e, if_pos rfl]
          have fresh : r2 = none := by
            rcases hd2 with ⟨h, _⟩ | ⟨i, y, h, hi, hy, ey⟩
            · exact h
            · have := uni i j y x hy hx ey e
              subst this
              rw [hd1, List.nodup_append] at nd
              exact absurd rfl (nd.2.2 i hi i (List.mem_cons_self ..))
          subst fresh
          rw [if_neg (by simp)]
          apply wpAny_bind
          apply wpAny_rule
          split
          · exact wpAny_pure (wpAny_pure (yes j x hx e))
          · exact wpAny_pure ⟨rfl, rfl, done ++ [j], by rw [hd1, List.append_assoc]; rfl, .inr ⟨j, x, rfl, List.mem_append_right _ (List.mem_singleton_self _), hx, e⟩⟩
        · rw [decide_eq_false e, if_neg (by decide)]
          apply wpAny_bind
          apply wpAny_rule
          rw [if_neg (by simp)]
          refine wpAny_pure ⟨rfl, rfl, done ++ [j], by rw [hd1, List.append_assoc]; rfl, ?_⟩
          rcases hd2 with ⟨h, h2⟩ | ⟨i, y, h, hi, hy, ey⟩
          · refine .inl ⟨h, fun i hi y hy ey => ?_⟩
            rcases List.mem_append.mp hi with hi | hi
            · exact h2 i hi y hy ey
            · rw [List.mem_singleton.mp hi, hx] at hy
              cases hy
              exact e ey
          · exact .inr ⟨i, y, h, List.mem_append_left _ hi, hy, ey⟩
      · rintro ⟨r1, r2⟩ s' ⟨rfl, er, done, hd1, hd2⟩
        cases (show r1 = none from er)
        rw [List.append_nil] at hd1
        dsimp only
        rcases hd2 with ⟨h, h2⟩ | ⟨i, y, h, hi, hy, ey⟩
        · cases (show r2 = none from h)
          exact wpAny_pure (none_ (by rw [hd1]; exact h2))
        · cases (show r2 = some i from h)
          exact wpAny_pure (yes i y hy ey)
  | @tup a0 vs0 ks0 h1 h2 =>
    dsimp only
    rw [if_neg (by simp [carriedByValue]), if_neg (odd _ rfl)]
    by_cases z : (st == [Value.ref a0]) = true
    all_goals first | rw [if_pos z] | rw [if_neg z]
    all_goals
      apply wpAny_bind
      first
        | refine wpAny_pure ?_
        | refine tells_v hk stored ?_
      rw [if_neg (by simp)]
      apply wpAny_bind
      apply wpAny_forIn_list _ (fun rest r s' => s' = s ∧ r.1 = none ∧ ∃ done, pl = done ++ rest ∧ ((r.2 = none ∧ ∀ j ∈ done, ∀ x, xs[j]? = some x → x.1 ≠ NK.tup ks0) ∨ ∃ j x, r.2 = some j ∧ j ∈ done ∧ xs[j]? = some x ∧ x.1 = NK.tup ks0)) _ ?_ ?_ _ _ ⟨rfl, rfl, [], rfl, .inl ⟨rfl, fun _ z => nomatch z⟩⟩
      · rintro j rest ⟨r1, r2⟩ s' ⟨rfl, er, done, hd1, hd2⟩
        cases (show r1 = none from er)
        obtain ⟨x, hx, ex, hhx⟩ := inb j (by rw [hd1]; exact List.mem_append_right _ (List.mem_cons_self ..))
        rw [ex]
        dsimp only
        rw [if_pos hhx]
        apply wpAny_bind
        apply wpAny_dictEpoch ob hda
        apply wpAny_bind
        apply IsKV.eqB hu (his x (List.mem_of_getElem? hx)) hk
        apply wpAny_bind
        apply wpAny_dictEpoch ob hda
        rw [if_neg (by simp)]
        by_cases e : x.1 = NK.tup ks0
        · rw [decide_eq_true e, if_pos rfl]
          have fresh : r2 = none := by
            rcases hd2 with ⟨h, _⟩ | ⟨i, y, h, hi, hy, ey⟩
            · exact h
            · have := uni i j y x hy hx ey e
              subst this
              rw [hd1, List.nodup_append] at nd
              exact absurd rfl (nd.2.2 i hi i (List.mem_cons_self ..))
          subst fresh
          rw [if_neg (by simp)]
          apply wpAny_bind
          apply wpAny_rule
          split
          · exact wpAny_pure (wpAny_pure (yes j x hx e))
          · exact wpAny_pure ⟨rfl, rfl, done ++ [j], by rw [hd1, List.append_assoc]; rfl, .inr ⟨j, x, rfl, List.mem_append_right _ (List.mem_singleton_self _), hx, e⟩⟩
        · rw [decide_eq_false e, if_neg (by decide)]
          apply wpAny_bind
          apply wpAny_rule
          rw [if_neg (by simp)]
          refine wpAny_pure ⟨rfl, rfl, done ++ [j], by rw [hd1, List.append_assoc]; rfl, ?_⟩
          rcases hd2 with ⟨h, h2⟩ | ⟨i, y, h, hi, hy, ey⟩
          · refine .inl ⟨h, fun i hi y hy ey => ?_⟩
            rcases List.mem_append.mp hi with hi | hi
            · exact h2 i hi y hy ey
            · rw [List.mem_singleton.mp hi, hx] at hy
              cases hy
              exact e ey
          · exact .inr ⟨i, y, h, List.mem_append_left _ hi, hy, ey⟩
      · rintro ⟨r1, r2⟩ s' ⟨rfl, er, done, hd1, hd2⟩
        cases (show r1 = none from er)
        rw [List.append_nil] at hd1
        dsimp only
        rcases hd2 with ⟨h, h2⟩ | ⟨i, y, h, hi, hy, ey⟩
        · cases (show r2 = none from h)
          exact wpAny_pure (none_ (by rw [hd1]; exact h2))
        · cases (show r2 = some i from h)
          exact wpAny_pure (yes i y hy ey)
def valX (xs : List VX) (k : NK) : Option Value := (xs.find? fun x => decide (x.1 = k)).map (·.2.2)
def VDict (w : World) (h : Heap) (d : Addr) (xs : List VX) : Prop := ∃ o es ep, h.get? d = some o ∧ o.ExactDict ∧ o.data = .dict es ep ∧ es.toList = xs.map (entV w) ∧ (∀ x ∈ xs, IsKV h x.1 x.2.1) ∧ (xs.map (·.1)).Nodup
theorem VDict.type {d : Addr} {xs : List VX} (m : VDict w s.heap d xs) : s.TypeIs (.ref d) "dict" := by
  obtain ⟨o, _, _, ob, hc, _⟩ := m
  exact ⟨o, ob, hc.1⟩
theorem valX_none {xs : List VX} {k : NK} (h : ∀ x ∈ xs, x.1 ≠ k) : valX xs k = none := by
  unfold valX
  rw [List.find?_eq_none.mpr fun x hx z => h x hx (of_decide_eq_true z)]
  rfl
theorem valX_some {xs : List VX} {k : NK} (hn : (xs.map (·.1)).Nodup) {j : Nat} {x : VX} (hx : xs[j]? = some x) (e : x.1 = k) : valX xs k = some x.2.2 := by
  unfold valX
  cases q : xs.find? fun x => decide (x.1 = k) with
  | none => exact absurd (decide_eq_true e) (List.find?_eq_none.mp q x (List.mem_of_getElem? hx))
  | some y =>
    have ey : y.1 = k := of_decide_eq_true (List.find?_some (p := fun x : VX => decide (x.1 = k)) q)
    obtain ⟨i, hi⟩ := List.getElem?_of_mem (List.mem_of_find?_eq_some q)
    have a : (xs.map (·.1))[i]? = some k := by rw [List.getElem?_map, hi, ← ey]; rfl
    have b : (xs.map (·.1))[j]? = some k := by rw [List.getElem?_map, hx, ← e]; rfl
    have ij := (List.getElem?_inj (List.getElem?_eq_some_iff.mp a).1 hn).mp (a.trans b.symm)
    rw [ij, hx] at hi
    cases hi
    rfl
theorem get_v {d : Addr} {xs : List VX} {k : NK} {key : Value} {Q : Option Value → Shared → Prop} (hu : A.units + 8 < cLine) (hk : IsKV s.heap k key) (m : VDict w s.heap d xs) (h : Q (valX xs k) { s with toks := s.toks + k.draws }) :
    wpAny (model prog w) A (dictGet d key) Q E s := by
  obtain ⟨o, es, ep, ob, _, hda, he, his, hn⟩ := m
  unfold dictGet
  try with_reducible apply wpAny_holding
  apply wpAny_bind
  apply nk_hash k A E s key _ hk.2.1 (by have := hk.1; omega)
  apply wpAny_bind
  refine find_v (s := { s with toks := s.toks + k.draws }) hu hk ob hda he his hn (fun z => ?_) fun j x hx e => ?_
  · rw [valX_none z] at h
    exact wpAny_pure h
  · rw [valX_some hn hx e] at h
    apply wpAny_bind
    apply wpAny_dictEntries (s := { s with toks := s.toks + k.draws }) ob hda
    have ej : es[j]? = some (entV w x) := by rw [← Array.getElem?_toList, he, List.getElem?_map, hx]; rfl
    rw [ej]
    exact wpAny_pure h
theorem in_v {d : Addr} {xs : List VX} {k : NK} {key : Value} {Q : Value → Shared → Prop} (hu : A.in1.units + 8 < cLine) (hk : IsKV s.heap k key) (hd : (d == sysModules) = false) (m : VDict w s.heap d xs)
    (h : Q (.bool (!(valX xs k).isSome)) { s with toks := s.toks + k.draws }) : wpAny (model prog w) A (compareOp .NotIn key (.ref d)) Q E s := by
  show wpAny _ _ (do return .bool (!(← contains (.ref d) key))) Q E s
  apply wpAny_bind
  unfold contains
  try with_reducible apply wpAny_holding
  apply wpAny_bind
  apply wpAny_specialOf m.type PySem.F.slot_dict_contains.lookup
  show wpAny _ _ (if (some (Value.builtin "dict.__contains__") == some .none) = true then _ else _) _ E s
  rw [if_neg (by rw [beq_builtin_none]; decide)]
  apply wpAny_bind
  apply wpAny_callSpecialUnlessNone?_slot m.type PySem.F.slot_dict_contains
  apply wpAny_call_entry PySem.F.slot_dict_contains m.type PySem.F.entry_dict_contains ?_ (PySem.F.args_dict_contains_2 _ _)
  show wpAny _ _ (dictGet d key >>= fun _ => _) _ _ s
  apply wpAny_bind
  apply get_v hu hk m
  cases q : valX xs k with
  | some v =>
    rw [q] at h
    exact wpAny_pure ⟨_, rfl, wpAny_truthy_bool (wpAny_pure h)⟩
  | none =>
    rw [q] at h
    show wpAny _ _ (Builtin.Dict.pendingKey? d key >>= fun _ => _) _ _ _
    apply wpAny_bind
    apply wpAny_pendingKey_other hd
    exact wpAny_pure ⟨_, rfl, wpAny_truthy_bool (wpAny_pure h)⟩
theorem item_v {d : Addr} {xs : List VX} {k : NK} {key v : Value} {Q : Value → Shared → Prop} (hu : A.in1.units + 8 < cLine) (hk : IsKV s.heap k key) (m : VDict w s.heap d xs) (hv : valX xs k = some v)
    (h : Q v { s with toks := s.toks + k.draws }) : wpAny (model prog w) A (getItem (.ref d) key) Q E s := by
  unfold getItem
  try with_reducible apply wpAny_holding
  apply wpAny_bind
  apply wpAny_sequenceKey m.type (by decide)
  apply wpAny_bind
  apply wpAny_callSpecial?_slot m.type PySem.F.slot_dict_getitem
  apply wpAny_call_entry PySem.F.slot_dict_getitem m.type PySem.F.entry_dict_getitem ?_ (PySem.F.args_dict_getitem_2 _ _)
  show wpAny _ _ (dictGet d key >>= fun _ => _) _ _ s
  apply wpAny_bind
  apply get_v hu hk m
  rw [hv]
  exact wpAny_pure ⟨v, rfl, wpAny_pure h⟩
theorem set_v {d : Addr} {xs : List VX} {k : NK} {key v : Value} {Q : Unit → Shared → Prop} (hu : A.units + 8 < cLine) (hk : IsKV s.heap k key) (m : VDict w s.heap d xs) (new : ∀ x ∈ xs, x.1 ≠ k) (hz : xs.length ≤ sizeLine)
    (h : ∀ h1, VDict w h1 d (xs ++ [(k, key, v)]) → Heap.SameBut d s.heap h1 → Q () { s with heap := h1, toks := s.toks + k.draws }) : wpAny (model prog w) A (dictSet d key v) Q E s := by
  obtain ⟨o, es, ep, ob, hc, hda, he, his, hn⟩ := m
  unfold dictSet
  try with_reducible apply wpAny_holding
  apply wpAny_bind
  apply nk_hash k A E s key _ hk.2.1 (by have := hk.1; omega)
  unfold dictSetHashed
  try with_reducible apply wpAny_holding
  apply wpAny_bind
  refine find_v (s := { s with toks := s.toks + k.draws }) hu hk ob hda he his hn (fun _ => ?_) fun j x hx e => absurd e (new x (List.mem_of_getElem? hx))
  have sz : es.size = xs.length := by rw [← Array.length_toList, he, List.length_map]
  apply wpAny_bind
  apply wpAny_rule
  have keep : ∀ {h1 : Heap} {k : NK} {v : Value}, Heap.SameBut d s.heap h1 → IsKV s.heap k v → IsKV h1 k v := fun hs z => ⟨z.1, IsNK.keeps ob hda hs _ _ z.2.1, z.2.2⟩
  apply wpAny_updateDictKeys (hz := by omega) (s := { s with toks := s.toks + k.draws }) ob hda
  refine h _ ⟨_, _, ep + 1, Heap.get?_update_self _ ob (Obj.isFreed_of_dict (Obj.data_mapDictKeys hda _)), hc.mapDictKeys _, Obj.data_mapDictKeys hda _, ?_, fun x hx => ?_, ?_⟩ (Heap.SameBut.update ..)
  · rw [Array.toList_push, he, List.map_append]
    rfl
  · rcases List.mem_append.mp hx with hx | hx
    · exact keep (Heap.SameBut.update ..) (his x hx)
    · rw [List.mem_singleton.mp hx]
      exact keep (Heap.SameBut.update ..) hk
  · rw [List.map_append, List.nodup_append]
    refine ⟨hn, by simp, fun a ha b hb e => ?_⟩
    obtain ⟨x, hx, rfl⟩ := List.mem_map.mp ha
    rw [List.mem_singleton.mp (show b ∈ [k] from hb)] at e
    exact new x hx e
end
end AE

set_option Elab.async false
set_option linter.all false
set_option maxRecDepth 100000
set_option maxHeartbeats 2000000
/-! dicts whose keys are None or nested tuples, in the layer -/
namespace AE
open PySem PySem.Spec PyProof.Rows L2 Evl
abbrev VE := NK × V × V
def valNV (kvs : List VE) (k : NK) : Option V := (kvs.find? fun x => decide (x.1 = k)).map (·.2.2)
abbrev VR : List VE → List VX → Prop := Paired fun p q => p.1 = q.1 ∧ RelV p.2.1 q.2.1 ∧ RelV p.2.2 q.2.2
def DV (w : World) (a : Addr) (kvs : List VE) (h : Heap) : Prop :=
  kvs.length ≤ sizeLine ∧ (a == sysModules) = false ∧ ∃ xs : List VX, VR kvs xs ∧ ∃ o es ep, h.get? a = some o ∧ o.ExactDict ∧ o.data = .dict es ep ∧ es.toList = xs.map (entV w) ∧ (xs.map (·.1)).Nodup
def dV (w : World) (a : Addr) (kvs : List VE) : HO := .ext (DV w a kvs)
/-- the value is that key -/
def KeyV (H : Hp) (k : NK) (y : V) : Prop := k.depth ≤ 8 ∧ NAt H y k ∧ (k = .non ∨ ∃ ks, k = .tup ks)
def KeysV (H : Hp) (kvs : List VE) : Prop := ∀ e ∈ kvs, KeyV H e.1 e.2.1
theorem KeyV.tx {H H' : Hp} {k : NK} {y : V} (e : TxN H H') (h : KeyV H k y) : KeyV H' k y := ⟨h.1, h.2.1.tx e, h.2.2⟩
theorem KeysV.tx {H H' : Hp} {kvs : List VE} (e : TxN H H') (h : KeysV H kvs) : KeysV H' kvs := fun x hx => (h x hx).tx e
theorem VR.val {kvs : List VE} {xs : List VX} (r : VR kvs xs) (k : NK) : RelO (valNV kvs k) (valX xs k) := by
  unfold valNV valX
  induction r with
  | nil => exact True.intro
  | @cons p q ps qs h t ih =>
    rw [List.find?_cons, List.find?_cons, ← h.1]
    by_cases e : p.1 = k
    · rw [decide_eq_true e]
      exact h.2.2
    · rw [decide_eq_false e]
      exact ih
theorem VR.keys {kvs : List VE} {xs : List VX} (r : VR kvs xs) : kvs.map (·.1) = xs.map (·.1) := by
  induction r with
  | nil => rfl
  | cons h t ih => rw [List.map_cons, List.map_cons, h.1, ih]
section
variable {P : Program} {w : World} {H : Hp} {h : Heap} {a : Addr}
theorem dv_stable (w : World) (a : Addr) (kvs : List VE) : ∀ h1 h2 : Heap, DV w a kvs h1 → (∀ o, h1.get? a = some o → h2.get? a = some o) → DV w a kvs h2 := by
  rintro h1 h2 ⟨z, y, xs, r, o, es, ep, ho, rest⟩ st
  exact ⟨z, y, xs, r, o, es, ep, st _ ho, rest⟩
theorem dv_ok {kvs : List VE} (d : DV w a kvs h) : ObjOk P w H h a (dV w a kvs) := by
  refine ⟨d, ?_, dv_stable w a kvs⟩
  obtain ⟨_, _, _, _, o, _, _, ho, _⟩ := d
  exact ⟨o, ho⟩
theorem kv_is (ok : HOk P w H h) {k : NK} {y : V} {u : Value} (kv : KeyV H k y) (r : RelV y u) : IsKV h k u := ⟨kv.1, nat_is ok kv.2.1 r, kv.2.2⟩
theorem dv_rd {kvs : List VE} (ok : HOk P w H h) (e : Rd H a (dV w a kvs)) (hk : KeysV H kvs) : kvs.length ≤ sizeLine ∧ (a == sysModules) = false ∧ ∃ xs, VR kvs xs ∧ VDict w h a xs := by
  obtain ⟨⟨z, y, xs, r, o, es, ep, ho, hx, hd, he, hn⟩, _⟩ := e.ok ok
  refine ⟨z, y, xs, r, o, es, ep, ho, hx, hd, he, ?_, hn⟩
  have all : ∀ {l : List VE} {m : List VX}, KeysV H l → VR l m → ∀ x ∈ m, IsKV h x.1 x.2.1 := by
    intro l m hk q
    induction q with
    | nil => intro x hx; exact nomatch hx
    | @cons p q ps qs hq t ih =>
      intro x hx
      rcases List.mem_cons.mp hx with e | hx
      · subst e
        have := kv_is ok (hk p (List.mem_cons_self ..)) hq.2.1
        rw [hq.1] at this
        exact this
      · exact ih (fun e he => hk e (List.mem_cons_of_mem _ he)) x hx
  exact all hk r
end
def NGetV (w : World) (H : Hp) (a : Addr) (y : V) (o : Option V) : Prop := ∃ kvs k, Rd H a (dV w a kvs) ∧ KeysV H kvs ∧ KeyV H k y ∧ o = valNV kvs k
section
variable {X : Cx} {pins : List (Addr × Obj)} {σ : L2.St} {H : Hp} {s : Shared} {a : Addr} {y v : V} {u : Value} {o : Option V} {A : Around} {E : Value → Shared → Prop}
theorem v_getItem {Q : Value → Shared → Prop} (hu : A.units + 64 < cLine) (I : Inv X pins σ H s) (g : NGetV X.w H a y (some v)) (ry : RelV y u) (h : ∀ w' s', Inv X pins σ H s' → RelV v w' → Q w' s') :
    wpAny (model X.prog X.w) A (getItem (.ref a) u) Q E s := by
  obtain ⟨kvs, k, e, hk, kv, l⟩ := g
  obtain ⟨_, _, xs, rel, dd⟩ := dv_rd I.hok e hk
  obtain ⟨w', hw, rw'⟩ := RelO.some_of (v := v) (o := valX xs k) (by rw [l]; exact rel.val k)
  exact item_v (show A.units + 1 + 8 < cLine by omega) (kv_is I.hok kv ry) dd hw (h w' _ (I.tok _) rw')
theorem v_notIn {Q : Value → Shared → Prop} (hu : A.units + 64 < cLine) (I : Inv X pins σ H s) (g : NGetV X.w H a y o) (ry : RelV y u) (h : ∀ s', Inv X pins σ H s' → Q (.bool (!o.isSome)) s') :
    wpAny (model X.prog X.w) A (compareOp .NotIn u (.ref a)) Q E s := by
  obtain ⟨kvs, k, e, hk, kv, l⟩ := g
  obtain ⟨_, hd, xs, rel, dd⟩ := dv_rd I.hok e hk
  refine in_v (show A.units + 1 + 8 < cLine by omega) (kv_is I.hok kv ry) hd dd ?_
  rw [← (rel.val k).isSome_eq, ← l]
  exact h _ (I.tok _)
end
theorem isV_at {X : Cx} {pins : List (Addr × Obj)} {σ : L2.St} {H : Hp} {s : Shared} {a : Addr} {kvs : List VE} (I : Inv X pins σ H s) (e : Rd H a (dV X.w a kvs)) : s.TypeIs (.ref a) "dict" := by
  obtain ⟨⟨_, _, xs, r, o, es, ep, ho, hx, _⟩, _⟩ := e.ok I.hok
  exact ⟨o, ho, hx.1⟩
def tVGet (w : World) (td ty : TE) : TE := fun σ H Q => td σ H fun x H1 => ty σ H1 fun y H2 => ∃ a v, x = .ref a ∧ NGetV w H2 a y (some v) ∧ Q v H2
def tVNotIn (w : World) (ty td : TE) : TE := fun σ H Q => ty σ H fun y H1 => td σ H1 fun x H2 => ∃ a o, x = .ref a ∧ NGetV w H2 a y o ∧ Q (.bl (!o.isSome)) H2
section
variable {X : Cx} {o i e f value : Expr} {pos pos' tpos apos cpos : Pos} {td ty tv tx : TE}
theorem pe_vget (hu : X.A.units + 64 < cLine) (ho : PE X o td) (hi : PE X i ty) (hs : NoSl i) : PE X (.Subscript o i pos) (tVGet X.w td ty) := by
  refine ⟨fun pins s σ H Q I h => ?_⟩
  refine subD_of PySem.F.slot_dict_getitem.lookup hs (thn (ho.run pins s σ H _ I h) fun u s1 ⟨x, H1, I1, rx, q1⟩ => thn (hi.run pins s1 σ H1 _ I1 q1) fun iv s2 ⟨y, H2, I2, ry, a, v, ex, g, q2⟩ => ?_)
  subst ex
  obtain rfl : u = Value.ref a := rx
  exact ⟨by obtain ⟨kvs, _, e, _⟩ := g; exact isV_at I2 e, v_getItem hu I2 g ry fun w' s3 I3 rw' => ⟨v, H2, I3, rw', q2⟩⟩
theorem pc_vnotin (hu : X.A.units + 64 < cLine) (hi : PE X i ty) (ho : PE X o td) : PC X .NotIn i o (tVNotIn X.w ty td) := by
  refine ⟨fun pins s σ H Q I h => ?_⟩
  refine thn (hi.run pins s σ H _ I h) fun iv s1 ⟨y, H1, I1, ry, q1⟩ => thn (ho.run pins s1 σ H1 _ I1 q1) fun u s2 ⟨x, H2, I2, rx, a, ov, ex, g, q2⟩ => ?_
  subst ex
  obtain rfl : u = Value.ref a := rx
  exact v_notIn hu I2 g ry fun s3 I3 => ⟨.bl (!ov.isSome), H2, I3, rfl, q2⟩
end
section
variable {X : Cx} {pins : List (Addr × Obj)} {σ : L2.St} {H : Hp} {s : Shared}
theorem put_v {D : Addr} {kvs : List VE} {k : NK} {y v : V} {u r : Value} {Q : Unit → Shared → Prop} {Er : Value → Shared → Prop} {A : Around} (hu : A.units + 64 < cLine) (I : Inv X pins σ H s) (hD : H D = some (dV X.w D kvs)) (hk : KeysV H kvs) (kv : KeyV H k y) (new : ∀ e ∈ kvs, e.1 ≠ k) (hl : kvs.length < sizeLine)
    (ry : RelV y u) (rv : RelV v r) (h : ∀ s1, Inv X pins σ (upd H D (dV X.w D (kvs ++ [(k, y, v)]))) s1 → Q () s1) : wpAny (model X.prog X.w) A (dictSet D u r) Q Er s := by
  obtain ⟨_, hd, xs, rel, dd⟩ := dv_rd I.hok (.inl hD) hk
  have hx : xs.length ≤ sizeLine := by
    have e := Paired.length rel
    omega
  have newx : ∀ x ∈ xs, x.1 ≠ k := fun x hx e => by
    have m : k ∈ kvs.map (·.1) := by rw [rel.keys, ← e]; exact List.mem_map.mpr ⟨x, hx, rfl⟩
    obtain ⟨z, hz, ez⟩ := List.mem_map.mp m
    exact new z hz ez
  refine set_v (show A.units + 8 < cLine by omega) (kv_is I.hok kv ry) dd newx hx fun h1 dd1 hs => h _ ?_
  have he : ∃ q, h1.get? D = some q := let ⟨q, _, _, hq, _⟩ := dd1; ⟨q, hq⟩
  refine d_write I (by rw [hD]; trivial) hs he ?_
  obtain ⟨q, es, ep, hq, h2, h3, h4, _, h5⟩ := dd1
  exact dv_ok ⟨by rw [List.length_append]; show kvs.length + 1 ≤ _; omega, hd, xs ++ [(k, u, r)], Paired.snoc rel ⟨rfl, ry, rv⟩, q, es, ep, hq, h2, h3, h4, h5⟩
/-- the stores of a comprehension whose keys are None or tuples, all new -/
def sV (w : World) (D : Addr) : V → V → Hp → (Hp → Prop) → Prop := fun y z H R => ∃ (kvs : List VE) (k : NK), H D = some (dV w D kvs) ∧ KeysV H kvs ∧ KeyV H k y ∧ (∀ e ∈ kvs, e.1 ≠ k) ∧ kvs.length < sizeLine ∧ R (upd H D (dV w D (kvs ++ [(k, y, z)])))
def tDcV (w : World) (wi : TI) (g : TG) (tt : TT) (tk tv : TE) (vs : List Nat) : TE := fun σ H Q => wi σ H fun J Ha => ∀ D, Ha D = none → ∃ W : Nat → Nat → Hp → Prop, (∃ m, W 0 m (upd Ha D (dV w D []))) ∧ ∀ i m Hb, W i m Hb →
  (J.stop i Hb ∧ Q (.ref D) Hb) ∨ (J.go i Hb ∧ ∃ Nx : Hp → Prop, (∀ Hc, Nx Hc → ∃ m1, m1 < m ∧ W (i + 1) m1 Hc) ∧ ∀ x Hc, J.yld i Hb x Hc → g x (wipe σ vs) Hc fun σa Hd => wipe σa vs = wipe σ vs ∧ tt σa Hd fun b He =>
    if b = true then tk σa He fun y Hf => tv σa Hf fun z Hg => sV w D y z Hg Nx else Nx He)
theorem pe_dcV {kx vx tg iter : Expr} {ifs : List Expr} {scope : Scope} {own : List (Str × Nat)} {pos : Pos} {wi : TI} {g : TG} {tt : TT} {tk tv : TE} (hu : X.A.units + 64 < cLine) (hc : X.calm = true) (hN : X.N.Nodup) (hi : PI X tg iter wi) (ok : BlkOk X.N X.env.scope scope own)
    (hg : ∀ s0 H0 C cl fp, PG (X.blk s0 H0 scope (compEnvC scope cl C X.env) fp) tg g) (ht : ∀ s0 H0 C cl fp, PTs (X.blk s0 H0 scope (compEnvC scope cl C X.env) fp) ifs tt)
    (hk : ∀ s0 H0 C cl fp, PE (X.blk s0 H0 scope (compEnvC scope cl C X.env) fp) kx tk) (he : ∀ s0 H0 C cl fp, PE (X.blk s0 H0 scope (compEnvC scope cl C X.env) fp) vx tv)
    (hs : ∀ x, foldedSetIterable iter X.env x = pure x := by intro _; rfl) : PE X (.DictComp kx vx [⟨tg, iter, ifs, 0⟩] scope pos) (tDcV X.w wi g tt tk tv (own.map (·.2))) := by
  refine ⟨fun pins s σ H Q I h => ?_⟩
  rw [arm_eval_DictComp]
  have free : ∀ y ∈ scope.names, y.2 = .free → ∃ c, X.env.cells.lookup y.1 = some c := fun y hy e => by
    rcases ok.free y hy e with z | z
    · exact I.ok.has _ (.inl z)
    · exact I.ok.has _ (.inr z)
  refine wpAny_comprehension_free (use := none) rfl hs (closure_ok free) ok.kind (fun y hy e => by rw [ok.uniq y hy, e]) (thn (hi.run pins s σ H _ I h) fun xv sa hx => thn hx fun itv sb hb => ?_)
  obtain ⟨it, fp, tn, J, Hb, e, Ib, T, stb, fb, q⟩ := hb
  subst e
  refine wpAny_newObj_type (newEnv_comp ?_)
  generalize hDe : sb.heap.objs.size = D
  obtain ⟨W, ⟨m0, w0⟩, turn⟩ := q D (Ib.hok.fresh (Nat.le_of_eq hDe))
  generalize hsc : ({ sb with heap := sb.heap.push { cls := .type "dict", data := .dict #[] } } : Shared) = sc
  have hsc' : sc.heap = sb.heap.push { cls := .type "dict", data := .dict #[] } := by rw [← hsc]
  have Ic : Inv X pins σ (upd Hb D (dV X.w D [])) sc := by
    rw [← hsc]
    refine Ib.laid (t' := sb.toks) (fun _ _ e => Heap.get?_push_of_some _ e) (Nat.le_of_eq hDe) ?_
    rw [← hDe]
    exact dv_ok ⟨Nat.zero_le _, beq_eq_false_iff_ne.mpr (Ne.symm (Nat.ne_of_lt Ib.big)), [], .nil, _, #[], 0, Heap.get?_push_size _ rfl, ⟨rfl, rfl, rfl⟩, rfl, rfl, List.nodup_nil⟩
  have old : ∀ b ∈ fp, b < sb.heap.objs.size := fun b hb => by
    obtain ⟨_, z, _⟩ := T.obj _ _ stb b hb
    exact Heap.lt_size z
  have fc : ∀ b ∈ fp, FpOk X pins (upd Hb D (dV X.w D [])) b ∧ b < sc.heap.objs.size := fun b hb => by
    have z := old b hb
    refine ⟨⟨by rw [upd_ne (by rw [← hDe]; exact Nat.ne_of_lt z)]; exact (fb b hb).1, (fb b hb).2⟩, ?_⟩
    rw [hsc', Heap.size_push]
    exact Nat.lt_succ_of_lt z
  have stc : tn 0 sc.heap := T.keep _ _ _ stb fun b _ o e => by rw [hsc']; exact Heap.get?_push_of_some _ e
  have Id := block_start Ic ok hN fc
  have pg := hg sc (upd Hb D (dV X.w D [])) sc.heap.objs.size (cellsFrom (sc.heap.objs.size + 1) scope.names (cloFrom X.env.cells scope.names [])) fp
  have pt := ht sc (upd Hb D (dV X.w D [])) sc.heap.objs.size (cellsFrom (sc.heap.objs.size + 1) scope.names (cloFrom X.env.cells scope.names [])) fp
  have pk := hk sc (upd Hb D (dV X.w D [])) sc.heap.objs.size (cellsFrom (sc.heap.objs.size + 1) scope.names (cloFrom X.env.cells scope.names [])) fp
  have pv := he sc (upd Hb D (dV X.w D [])) sc.heap.objs.size (cellsFrom (sc.heap.objs.size + 1) scope.names (cloFrom X.env.cells scope.names [])) fp
  show codeAny _ _ (.compStart (.DictComp kx vx [⟨tg, iter, ifs, 0⟩] scope pos) 0 (.ref it) (.ref D) (compEnvC scope (cellsFrom (sc.heap.objs.size + 1) scope.names (cloFrom X.env.cells scope.names [])) sc.heap.objs.size X.env)) _ { sc with heap := pushCells (sc.heap.push { cls := .type "dict", data := .dict #[] }) scope.names }
  have nfp : ∀ b ∈ fp, (upd Hb D (dV X.w D [])) b = none := fun b hb => (fc b hb).1.1
  generalize hce : compEnvC scope (cellsFrom (sc.heap.objs.size + 1) scope.names (cloFrom X.env.cells scope.names [])) sc.heap.objs.size X.env = ce at Id pg pt pk pv ⊢
  have cL : ce.locals = sc.heap.objs.size := by subst hce; rfl
  generalize hHc : upd Hb D (dV X.w D []) = Hc at Ic Id pg pt pk pv w0 nfp fc
  generalize hsd : ({ sc with heap := pushCells (sc.heap.push { cls := .type "dict", data := .dict #[] }) scope.names } : Shared) = sd at Id ⊢
  have std : tn 0 sd.heap := T.keep _ _ _ stc fun b _ o e => by rw [← hsd]; exact pushCells_keeps _ _ _ _ (Heap.get?_push_of_some _ e)
  have stat : ∀ {σ1 : L2.St} {H1 : Hp} {s1 : Shared}, Inv (X.blk sc Hc scope ce fp) [] σ1 H1 s1 → (∀ b ∈ fp, H1 b = none) → ∀ b ∈ fp, FpOk (X.blk sc Hc scope ce fp) [] H1 b := fun {σ1 H1 s1} J1 nn b hb =>
    ⟨nn b hb, (J1.ok.exf b hb).1, J1.ok.exfs b hb, .inl hb, fun x c e => (J1.ok.exf b hb).2 x c e, fun p hp => absurd (show p ∈ ([] : List (Addr × Obj)) ++ [] from hp) (by simp)⟩
  refine codeAny_compStart_dict ?_ (T.self X.A 0 _ _ _ std ?_)
  all_goals
    refine compLoop_anyD (fun n s1 => ∃ i H1, Inv (X.blk sc Hc scope ce fp) [] (wipe σ (own.map (·.2))) H1 s1 ∧ tn i s1.heap ∧ (∀ b ∈ fp, H1 b = none) ∧ W i n H1) ?_ m0 ⟨0, Hc, Id, std, nfp, w0⟩
    rintro n s5 ⟨i, H5, I5, st5, n5, w5⟩
    rcases turn i n H5 w5 with ⟨stop, fine⟩ | ⟨go, Nx, less, step⟩
    · refine thnF (T.done (X.blk sc Hc scope ce fp) rfl rfl rfl hc i [] s5 _ H5 (fun _ _ => False) I5 (stat I5 n5) st5 stop) fun r s6 ⟨hr, I6⟩ => ?_
      subst hr
      have I7 : Inv X pins σ H5 s6 := Ic.call' (ch := fp) I6.os I6.base I6.hok I6.bare fun b hb => ⟨(fc b hb).1.2.2.2.1, (fc b hb).1.2.1, (fc b hb).1.2.2.2.2.1, (fc b hb).1.2.2.2.2.2⟩
      have nC : H5 sc.heap.objs.size = none := by
        rw [← cL]
        exact I6.free
      obtain ⟨mm, hmm, _⟩ := I6.loc
      have hm2 : s6.heap.Ns ce.locals mm := hmm
      rw [cL] at hm2
      refine ⟨mm, hm2, fun h2 sb2 => ?_⟩
      obtain ⟨f0, f1, _, f3, f4, f5⟩ := Ic.fpOk (Nat.le_refl _) nC
      exact ⟨.ref D, H5, I7.turned (t' := s6.toks) (fun b o hb e => (sb2.2 b hb).trans e) f0 f1 f3 f4 f5, rfl, fine⟩
    · refine thnF (T.item (X.blk sc Hc scope ce fp) rfl rfl rfl hc i [] s5 _ H5 (fun _ _ => False) I5 (stat I5 n5) st5 go) fun r s6 ⟨u, hr, more⟩ => ?_
      subst hr
      refine thnF more fun _ s7 ⟨x, H7, I7, rx, yx, st7, n7⟩ => ?_
      refine thnF (pg.run _ s7 _ H7 x u _ (I7.pinned (stat I7 n7) (T.obj _ _ st7)) rx (step x H7 yx)) fun _ s8 ⟨σ8, H8, I8, hw, q8⟩ => ?_
      have back : ∀ {s1 : Shared} {H1 : Hp}, Inv (X.blk sc Hc scope ce fp) ([] ++ pinsAt fp s7.heap) σ8 H1 s1 → Nx H1 → ∃ m, m < n ∧ ∃ i H1, Inv (X.blk sc Hc scope ce fp) [] (wipe σ (own.map (·.2))) H1 s1 ∧ tn i s1.heap ∧ (∀ b ∈ fp, H1 b = none) ∧ W i m H1 := fun {s1 H1} J1 nx => by
        obtain ⟨m1, l1, w1⟩ := less H1 nx
        have keep : ∀ b ∈ fp, ∀ o, s7.heap.get? b = some o → s1.heap.get? b = some o ∧ H1 b = none := fun b hb o e => by
          have z := J1.pin (b, o) (List.mem_append_right _ (List.mem_append_right _ (mem_pinsAt hb e)))
          exact ⟨z.1, z.2.1⟩
        refine ⟨m1, l1, i + 1, H1, (J1.unpinned (pins := [])).weak (by rw [← hw, wipe_length]) (fun j v e => ?_), T.keep _ _ _ st7 fun b hb o e => (keep b hb o e).1, fun b hb => ?_, w1⟩
        · rw [← hw] at e
          exact (wipe_some e).1
        · obtain ⟨o, e, _⟩ := T.obj _ _ st7 b hb
          exact (keep b hb o e).2
      refine thnF (pt.run _ s8 σ8 H8 _ I8 q8) fun b s9 ⟨H9, I9, q9⟩ => ?_
      cases b
      · simp only [Bool.false_eq_true, if_false] at q9 ⊢
        exact back I9 q9
      · simp only [if_true] at q9 ⊢
        refine thnF (pk.run _ s9 σ8 H9 _ I9 q9) fun z s10 ⟨yk, H10, I10, rk, q10⟩ => ?_
        refine thnF (pv.run _ s10 σ8 H10 _ I10 q10) fun z2 s11 ⟨yv, H11, I11, rz, kvs, k1, eD, ko, kv, nw, l11, nx⟩ => ?_
        exact put_v (X := X.blk sc Hc scope ce fp) hu I11 eD ko kv nw l11 rk rz fun s12 I12 => back I12 nx
end
end AE
namespace AE
open PySem PySem.Spec PyProof.Rows L2 Evl
section
variable {w : World} {σ : L2.St} {H : Hp} {J : It} {n : Nat} {G : Hp → Prop} {Y : Nat → Hp → V → Hp → Prop} {vs : List Nat} {g : TG} {t : TT} {tk tv : TE} {D : Addr} {Qd : Hp → Prop}
theorem dcV_it (wk : Walk J n G Y) (Pv : Nat → Hp → Prop) (h0 : Pv 0 (upd H D (dV w D []))) (hG : ∀ i Ha, i ≤ n → Pv i Ha → G Ha)
    (hs : ∀ i x Ha Hb, i < n → Pv i Ha → Y i Ha x Hb → g x (wipe σ vs) Hb fun σ2 Hc => wipe σ2 vs = wipe σ vs ∧ t σ2 Hc fun b Hd =>
      if b = true then tk σ2 Hd fun y He => tv σ2 He fun z Hf => sV w D y z Hf (Pv (i + 1)) else Pv (i + 1) Hd) (hd : ∀ Ha, Pv n Ha → Qd Ha) :
    ∃ W : Nat → Nat → Hp → Prop, (∃ m, W 0 m (upd H D (dV w D []))) ∧ ∀ i m Ha, W i m Ha →
      (J.stop i Ha ∧ Qd Ha) ∨ (J.go i Ha ∧ ∃ Nx : Hp → Prop, (∀ Hb, Nx Hb → ∃ m1, m1 < m ∧ W (i + 1) m1 Hb) ∧ ∀ x Hb, J.yld i Ha x Hb → g x (wipe σ vs) Hb fun σ2 Hc => wipe σ2 vs = wipe σ vs ∧ t σ2 Hc fun b Hd =>
        if b = true then tk σ2 Hd fun y He => tv σ2 He fun z Hf => sV w D y z Hf Nx else Nx Hd) := by
  refine ⟨fun i m Ha => m + i = n ∧ Pv i Ha, ⟨n, by omega, h0⟩, ?_⟩
  rintro i m Ha ⟨e, p⟩
  have q := hG i Ha (by omega) p
  by_cases lt : i < n
  · exact .inr ⟨wk.goes i Ha lt q, Pv (i + 1), fun Hb p1 => ⟨m - 1, by omega, by omega, p1⟩, fun x Hb y => hs i x Ha Hb lt p (wk.yields i Ha x Hb lt q y)⟩
  · obtain rfl : i = n := by omega
    exact .inl ⟨wk.stops Ha q, hd Ha p⟩
end
theorem txv_dv {w : World} {H : Hp} {D : Addr} {kvs : List VE} {o : HO} (h : H D = some (dV w D kvs)) : TxN H (upd H D o) := fun c ys ec => by rw [upd_ne (ne_of ec h (by intro z; cases z))]; exact ec
theorem KeysV.snoc {H : Hp} {kvs : List VE} {k : NK} {y v : V} (h : KeysV H kvs) (kv : KeyV H k y) : KeysV H (kvs ++ [(k, y, v)]) := fun e he => by
  rcases List.mem_append.mp he with he | he
  · exact h e he
  · rw [List.mem_singleton.mp he]; exact kv
end AE

set_option Elab.async false
set_option linter.all false
set_option maxRecDepth 100000
set_option maxHeartbeats 2000000
/-! a dict comprehension, whose names are the def's too, put into a name -/
namespace AE
open PySem PySem.Spec PyProof.Rows L2 Evl
section
variable {X : Cx}
theorem dcV_core {pins : List (Addr × Obj)} {s : Shared} {σ : L2.St} {H : Hp} {Q : VK} {kx vx tg iter : Expr} {ifs : List Expr} {scope : Scope} {own : List (Str × Nat)} {pos pos' : Pos} {wi : TI} {g : TG} {tt : TT} {tk tv : TE} {use : Option (Value → Sem Unit)} {Qf : Value → Shared → Prop} (hu : X.A.units + 64 < cLine) (hc : X.calm = true) (hN : X.N.Nodup) (I : Inv X pins σ H s) (hi : PI X tg iter wi) (ok : BlkOk X.N X.env.scope scope own)
    (hg : ∀ s0 H0 C cl fp, PG (X.blk s0 H0 scope (compEnvC scope cl C X.env) fp) tg g) (ht : ∀ s0 H0 C cl fp, PTs (X.blk s0 H0 scope (compEnvC scope cl C X.env) fp) ifs tt)
    (hk : ∀ s0 H0 C cl fp, PE (X.blk s0 H0 scope (compEnvC scope cl C X.env) fp) kx tk) (he : ∀ s0 H0 C cl fp, PE (X.blk s0 H0 scope (compEnvC scope cl C X.env) fp) vx tv)
    (hs : ∀ x, foldedSetIterable iter X.env x = pure x) (h : tDcV X.w wi g tt tk tv (own.map (·.2)) σ H Q)
    (hRR : ∀ D C s1 m H1, Inv X pins σ H1 s1 → Q (.ref D) H1 → s1.heap.Ns C m → FpOk X pins H1 C → compPost (model X.prog X.w) X.A X.xe use Qf (.ref D) C (.ok .next) s1) :
    wpAny (model X.prog X.w) X.A (comprehension (.DictComp kx vx [⟨tg, iter, ifs, 0⟩] scope pos) scope X.env pos' newDict false (eval iter X.env) use) Qf X.xe s := by
  have free : ∀ y ∈ scope.names, y.2 = .free → ∃ c, X.env.cells.lookup y.1 = some c := fun y hy e => by
    rcases ok.free y hy e with z | z
    · exact I.ok.has _ (.inl z)
    · exact I.ok.has _ (.inr z)
  refine wpAny_comprehension_free (use := use) rfl hs (closure_ok free) ok.kind (fun y hy e => by rw [ok.uniq y hy, e]) (thn (hi.run pins s σ H _ I h) fun xv sa hx => thn hx fun itv sb hb => ?_)
  obtain ⟨it, fp, tn, J, Hb, e, Ib, T, stb, fb, q⟩ := hb
  subst e
  refine wpAny_newObj_type (newEnv_comp ?_)
  generalize hDe : sb.heap.objs.size = D
  obtain ⟨W, ⟨m0, w0⟩, turn⟩ := q D (Ib.hok.fresh (Nat.le_of_eq hDe))
  generalize hsc : ({ sb with heap := sb.heap.push { cls := .type "dict", data := .dict #[] } } : Shared) = sc
  have hsc' : sc.heap = sb.heap.push { cls := .type "dict", data := .dict #[] } := by rw [← hsc]
  have Ic : Inv X pins σ (upd Hb D (dV X.w D [])) sc := by
    rw [← hsc]
    refine Ib.laid (t' := sb.toks) (fun _ _ e => Heap.get?_push_of_some _ e) (Nat.le_of_eq hDe) ?_
    rw [← hDe]
    exact dv_ok ⟨Nat.zero_le _, beq_eq_false_iff_ne.mpr (Ne.symm (Nat.ne_of_lt Ib.big)), [], .nil, _, #[], 0, Heap.get?_push_size _ rfl, ⟨rfl, rfl, rfl⟩, rfl, rfl, List.nodup_nil⟩
  have old : ∀ b ∈ fp, b < sb.heap.objs.size := fun b hb => by
    obtain ⟨_, z, _⟩ := T.obj _ _ stb b hb
    exact Heap.lt_size z
  have fc : ∀ b ∈ fp, FpOk X pins (upd Hb D (dV X.w D [])) b ∧ b < sc.heap.objs.size := fun b hb => by
    have z := old b hb
    refine ⟨⟨by rw [upd_ne (by rw [← hDe]; exact Nat.ne_of_lt z)]; exact (fb b hb).1, (fb b hb).2⟩, ?_⟩
    rw [hsc', Heap.size_push]
    exact Nat.lt_succ_of_lt z
  have stc : tn 0 sc.heap := T.keep _ _ _ stb fun b _ o e => by rw [hsc']; exact Heap.get?_push_of_some _ e
  have Id := block_start Ic ok hN fc
  have pg := hg sc (upd Hb D (dV X.w D [])) sc.heap.objs.size (cellsFrom (sc.heap.objs.size + 1) scope.names (cloFrom X.env.cells scope.names [])) fp
  have pt := ht sc (upd Hb D (dV X.w D [])) sc.heap.objs.size (cellsFrom (sc.heap.objs.size + 1) scope.names (cloFrom X.env.cells scope.names [])) fp
  have pk := hk sc (upd Hb D (dV X.w D [])) sc.heap.objs.size (cellsFrom (sc.heap.objs.size + 1) scope.names (cloFrom X.env.cells scope.names [])) fp
  have pv := he sc (upd Hb D (dV X.w D [])) sc.heap.objs.size (cellsFrom (sc.heap.objs.size + 1) scope.names (cloFrom X.env.cells scope.names [])) fp
  show codeAny _ _ (.compStart (.DictComp kx vx [⟨tg, iter, ifs, 0⟩] scope pos) 0 (.ref it) (.ref D) (compEnvC scope (cellsFrom (sc.heap.objs.size + 1) scope.names (cloFrom X.env.cells scope.names [])) sc.heap.objs.size X.env)) _ { sc with heap := pushCells (sc.heap.push { cls := .type "dict", data := .dict #[] }) scope.names }
  have nfp : ∀ b ∈ fp, (upd Hb D (dV X.w D [])) b = none := fun b hb => (fc b hb).1.1
  generalize hce : compEnvC scope (cellsFrom (sc.heap.objs.size + 1) scope.names (cloFrom X.env.cells scope.names [])) sc.heap.objs.size X.env = ce at Id pg pt pk pv ⊢
  have cL : ce.locals = sc.heap.objs.size := by subst hce; rfl
  generalize hHc : upd Hb D (dV X.w D []) = Hc at Ic Id pg pt pk pv w0 nfp fc
  generalize hsd : ({ sc with heap := pushCells (sc.heap.push { cls := .type "dict", data := .dict #[] }) scope.names } : Shared) = sd at Id ⊢
  have std : tn 0 sd.heap := T.keep _ _ _ stc fun b _ o e => by rw [← hsd]; exact pushCells_keeps _ _ _ _ (Heap.get?_push_of_some _ e)
  have stat : ∀ {σ1 : L2.St} {H1 : Hp} {s1 : Shared}, Inv (X.blk sc Hc scope ce fp) [] σ1 H1 s1 → (∀ b ∈ fp, H1 b = none) → ∀ b ∈ fp, FpOk (X.blk sc Hc scope ce fp) [] H1 b := fun {σ1 H1 s1} J1 nn b hb =>
    ⟨nn b hb, (J1.ok.exf b hb).1, J1.ok.exfs b hb, .inl hb, fun x c e => (J1.ok.exf b hb).2 x c e, fun p hp => absurd (show p ∈ ([] : List (Addr × Obj)) ++ [] from hp) (by simp)⟩
  refine codeAny_compStart_dict ?_ (T.self X.A 0 _ _ _ std ?_)
  all_goals
    refine compLoop_anyD (fun n s1 => ∃ i H1, Inv (X.blk sc Hc scope ce fp) [] (wipe σ (own.map (·.2))) H1 s1 ∧ tn i s1.heap ∧ (∀ b ∈ fp, H1 b = none) ∧ W i n H1) ?_ m0 ⟨0, Hc, Id, std, nfp, w0⟩
    rintro n s5 ⟨i, H5, I5, st5, n5, w5⟩
    rcases turn i n H5 w5 with ⟨stop, fine⟩ | ⟨go, Nx, less, step⟩
    · refine thnF (T.done (X.blk sc Hc scope ce fp) rfl rfl rfl hc i [] s5 _ H5 (fun _ _ => False) I5 (stat I5 n5) st5 stop) fun r s6 ⟨hr, I6⟩ => ?_
      subst hr
      have I7 : Inv X pins σ H5 s6 := Ic.call' (ch := fp) I6.os I6.base I6.hok I6.bare fun b hb => ⟨(fc b hb).1.2.2.2.1, (fc b hb).1.2.1, (fc b hb).1.2.2.2.2.1, (fc b hb).1.2.2.2.2.2⟩
      have nC : H5 sc.heap.objs.size = none := by
        rw [← cL]
        exact I6.free
      obtain ⟨mm, hmm, _⟩ := I6.loc
      have hm2 : s6.heap.Ns ce.locals mm := hmm
      rw [cL] at hm2
      exact hRR D sc.heap.objs.size s6 mm H5 I7 fine hm2 (Ic.fpOk (Nat.le_refl _) nC)
    · refine thnF (T.item (X.blk sc Hc scope ce fp) rfl rfl rfl hc i [] s5 _ H5 (fun _ _ => False) I5 (stat I5 n5) st5 go) fun r s6 ⟨u, hr, more⟩ => ?_
      subst hr
      refine thnF more fun _ s7 ⟨x, H7, I7, rx, yx, st7, n7⟩ => ?_
      refine thnF (pg.run _ s7 _ H7 x u _ (I7.pinned (stat I7 n7) (T.obj _ _ st7)) rx (step x H7 yx)) fun _ s8 ⟨σ8, H8, I8, hw, q8⟩ => ?_
      have back : ∀ {s1 : Shared} {H1 : Hp}, Inv (X.blk sc Hc scope ce fp) ([] ++ pinsAt fp s7.heap) σ8 H1 s1 → Nx H1 → ∃ m, m < n ∧ ∃ i H1, Inv (X.blk sc Hc scope ce fp) [] (wipe σ (own.map (·.2))) H1 s1 ∧ tn i s1.heap ∧ (∀ b ∈ fp, H1 b = none) ∧ W i m H1 := fun {s1 H1} J1 nx => by
        obtain ⟨m1, l1, w1⟩ := less H1 nx
        have keep : ∀ b ∈ fp, ∀ o, s7.heap.get? b = some o → s1.heap.get? b = some o ∧ H1 b = none := fun b hb o e => by
          have z := J1.pin (b, o) (List.mem_append_right _ (List.mem_append_right _ (mem_pinsAt hb e)))
          exact ⟨z.1, z.2.1⟩
        refine ⟨m1, l1, i + 1, H1, (J1.unpinned (pins := [])).weak (by rw [← hw, wipe_length]) (fun j v e => ?_), T.keep _ _ _ st7 fun b hb o e => (keep b hb o e).1, fun b hb => ?_, w1⟩
        · rw [← hw] at e
          exact (wipe_some e).1
        · obtain ⟨o, e, _⟩ := T.obj _ _ st7 b hb
          exact (keep b hb o e).2
      refine thnF (pt.run _ s8 σ8 H8 _ I8 q8) fun b s9 ⟨H9, I9, q9⟩ => ?_
      cases b
      · simp only [Bool.false_eq_true, if_false] at q9 ⊢
        exact back I9 q9
      · simp only [if_true] at q9 ⊢
        refine thnF (pk.run _ s9 σ8 H9 _ I9 q9) fun z s10 ⟨yk, H10, I10, rk, q10⟩ => ?_
        refine thnF (pv.run _ s10 σ8 H10 _ I10 q10) fun z2 s11 ⟨yv, H11, I11, rz, kvs, k1, eD, ko, kv, nw, l11, nx⟩ => ?_
        exact put_v (X := X.blk sc Hc scope ce fp) hu I11 eD ko kv nw l11 rk rz fun s12 I12 => back I12 nx
/-- name = {..} on one line, names of the block's own among the def's -/
theorem stored_swap {pins : List (Addr × Obj)} {σ : L2.St} {H1 : Hp} {s1 : Shared} {i : Nat} {y : Str} {py : Pos} {D : Ends} {L C : Addr} {m : Str → Option Value} (hN : X.N.Nodup) (hy : X.N[i]? = some y) (hyl : X.env.scope.names.lookup y = some .local) (I1 : Inv X pins σ H1 s1) (q : gName i (.ref L) σ H1 D.nx) (hn : s1.heap.Ns C m) (f : FpOk X pins H1 C) :
    compPost (model X.prog X.w) X.A X.xe (some (assign (.Name y py) X.env)) (fun _ s2 => SP X pins D .next s2) (.ref L) C (.ok .next) s1 := by
  show wpAny _ _ (assign (.Name y py) X.env (.ref L)) _ _ _
  refine wpAny_assign_Name (store_ok2 (v := V.ref L) I1 hN hy (.inl hyl) rfl (fun s2 I2 hb => ?_) (.inr hyl))
  obtain ⟨b, sb, hb⟩ := hb
  obtain ⟨k0, k1, k2, k3, k4, k5⟩ := f
  have ne : C ≠ b := by
    rcases hb with z | z
    · rw [z]; exact k1
    · exact fun e => k4 y b z e.symm
  refine ⟨m, hn.sameBut sb ne, fun h3 sb3 => ?_⟩
  exact ⟨_, H1, I2.turned (t' := s2.toks) (fun c o hc e => (sb3.2 c hc).trans e) k0 k1 k3 k4 k5, q⟩
theorem ps_setDcV {i : Nat} {y : Str} {py : Pos} {kx vx tg iter : Expr} {ifs : List Expr} {scope : Scope} {own : List (Str × Nat)} {pos spos : Pos} {wi : TI} {g : TG} {tt : TT} {tk tv : TE} (hu : X.A.units + 64 < cLine) (hc : X.calm = true) (hN : X.N.Nodup) (hy : X.N[i]? = some y) (hyl : X.env.scope.names.lookup y = some .local)
    (hsw : swapsWith (.DictComp kx vx [⟨tg, iter, ifs, 0⟩] scope pos) (some (.Name y py)) spos.line X.env = pure true) (hi : PI X tg iter wi) (ok : BlkOk X.N X.env.scope scope own)
    (hg : ∀ s0 H0 C cl fp, PG (X.blk s0 H0 scope (compEnvC scope cl C X.env) fp) tg g) (ht : ∀ s0 H0 C cl fp, PTs (X.blk s0 H0 scope (compEnvC scope cl C X.env) fp) ifs tt)
    (hk : ∀ s0 H0 C cl fp, PE (X.blk s0 H0 scope (compEnvC scope cl C X.env) fp) kx tk) (he : ∀ s0 H0 C cl fp, PE (X.blk s0 H0 scope (compEnvC scope cl C X.env) fp) vx tv)
    (hs : ∀ x, foldedSetIterable iter X.env x = pure x := by intro _; rfl) : PS X (.Assign [.Name y py] (.DictComp kx vx [⟨tg, iter, ifs, 0⟩] scope pos) spos) (tAsg (tDcV X.w wi g tt tk tv (own.map (·.2))) (gName i)) := by
  refine ⟨fun pins s σ H D I h => ?_⟩
  rw [exec_Assign_Name_used _ _ _ _ hsw]
  apply wpAny_bind
  apply wpAny_standAt
  apply wpAny_bind
  show wpAny _ X.A (do let _ ← comprehension (.DictComp kx vx [⟨tg, iter, ifs, 0⟩] scope pos) scope X.env (firstIterPos [⟨tg, iter, ifs, 0⟩] pos) newDict false (eval iter X.env) (some (assign (.Name y py) X.env))) _ _ s
  have h : tDcV X.w wi g tt tk tv (own.map (·.2)) σ H (fun x H1 => gName i x σ H1 D.nx) := h
  apply wpAny_bind
  exact thn (dcV_core (Qf := fun _ s2 => SP X pins D .next s2) hu hc hN I hi ok hg ht hk he hs h fun L C s1 m H1 I1 q hn f => stored_swap hN hy hyl I1 q hn f) fun _ s1 hq => wpAny_pure (wpAny_pure hq)
theorem ps_setDc {i : Nat} {y : Str} {py : Pos} {kx vx tg iter : Expr} {ifs : List Expr} {scope : Scope} {own : List (Str × Nat)} {pos spos : Pos} {wi : TI} {g : TG} {tt : TT} {tk tv : TE} (hc : X.calm = true) (hN : X.N.Nodup) (hy : X.N[i]? = some y) (hyl : X.env.scope.names.lookup y = some .local)
    (hsw : swapsWith (.DictComp kx vx [⟨tg, iter, ifs, 0⟩] scope pos) (some (.Name y py)) spos.line X.env = pure true) (hi : PI X tg iter wi) (ok : BlkOk X.N X.env.scope scope own)
    (hg : ∀ s0 H0 C cl fp, PG (X.blk s0 H0 scope (compEnvC scope cl C X.env) fp) tg g) (ht : ∀ s0 H0 C cl fp, PTs (X.blk s0 H0 scope (compEnvC scope cl C X.env) fp) ifs tt)
    (hk : ∀ s0 H0 C cl fp, PE (X.blk s0 H0 scope (compEnvC scope cl C X.env) fp) kx tk) (he : ∀ s0 H0 C cl fp, PE (X.blk s0 H0 scope (compEnvC scope cl C X.env) fp) vx tv)
    (hs : ∀ x, foldedSetIterable iter X.env x = pure x := by intro _; rfl) : PS X (.Assign [.Name y py] (.DictComp kx vx [⟨tg, iter, ifs, 0⟩] scope pos) spos) (tAsg (tDc wi g tt tk tv (own.map (·.2))) (gName i)) := by
  refine ⟨fun pins s σ H D I h => ?_⟩
  rw [exec_Assign_Name_used _ _ _ _ hsw]
  apply wpAny_bind
  apply wpAny_standAt
  apply wpAny_bind
  show wpAny _ X.A (do let _ ← comprehension (.DictComp kx vx [⟨tg, iter, ifs, 0⟩] scope pos) scope X.env (firstIterPos [⟨tg, iter, ifs, 0⟩] pos) newDict false (eval iter X.env) (some (assign (.Name y py) X.env))) _ _ s
  have h : tDc wi g tt tk tv (own.map (·.2)) σ H (fun x H1 => gName i x σ H1 D.nx) := h
  apply wpAny_bind
  exact thn (dc_core (Qf := fun _ s2 => SP X pins D .next s2) hc hN I hi ok hg ht hk he hs h fun L C s1 m H1 I1 q hn f => stored_swap hN hy hyl I1 q hn f) fun _ s1 hq => wpAny_pure (wpAny_pure hq)
theorem sw_dict {kx vx : Expr} {gs : List Comprehension} {scope : Scope} {pos py : Pos} {y : Str} {l : Nat} {env : Env} (hk : env.scope.kind = .function) (hy : env.scope.names.lookup y = some .local) (hl : (py.line == pos.line) = true)
    (ha : (scope.names.any fun (n, k) => n == y && (k == .local || k == .cell)) = false) : swapsWith (.DictComp kx vx gs scope pos) (some (.Name y py)) l env = pure true := by
  have ky : env.kindOf y = some .local := hy
  have hb : env.blockKind = .function := by unfold Env.blockKind; rw [hk]; rfl
  unfold swapsWith
  simp only [hb, ky, ha, Expr.pos, hl]
  rfl
end
end AE

set_option Elab.async false
set_option linter.all false
set_option maxRecDepth 100000
set_option maxHeartbeats 2000000
/-! comprehensions with any number of «for», as values and put into a name -/
namespace AE
open PySem PySem.Spec PyProof.Rows L2 Evl
/-- the reading: a new object o0, the first «for» r, the others rs -/
def tCN (o0 : Addr → HO) (em : Addr → TItem) (r : GR) (rs : List GR) : TE := fun σ H Q => r.wi σ H fun J Ha => ∀ D, Ha D = none → ∃ W : Nat → Nat → Hp → Prop, (∃ m, W 0 m (upd Ha D (o0 D))) ∧ ∀ i m Hb, W i m Hb →
  (J.stop i Hb ∧ Q (.ref D) Hb) ∨ (J.go i Hb ∧ ∃ N : Hp → Prop, (∀ Hc, N Hc → ∃ m1, m1 < m ∧ W (i + 1) m1 Hc) ∧ ∀ x Hc, J.yld i Hb x Hc → r.g x (wipe σ r.vs) Hc fun σ2 Hd => wipe σ2 r.vs = wipe σ r.vs ∧ r.tt σ2 Hd fun b He => if b = true then tIn (em D) rs σ2 He N else N He)
def emL (te : TE) (D : Addr) : TItem := fun σ H Nx => te σ H fun y H1 => ∃ acc, H1 D = some (.lst acc) ∧ acc.length < sizeLine ∧ Nx (upd H1 D (.lst (acc ++ [y])))
def emN (w : World) (tk tv : TE) (D : Addr) : TItem := fun σ H Nx => tk σ H fun y H1 => tv σ H1 fun z H2 => sN w D y z H2 Nx
def emK (tk tv : TE) (D : Addr) : TItem := fun σ H Nx => tk σ H fun y H1 => tv σ H1 fun z H2 => ∃ (kvs : List (Key × V)) (k : Key), y = kV k ∧ H2 D = some (.dK kvs) ∧ kvs.length < sizeLine ∧ Nx (upd H2 D (.dK (putK kvs k z)))
section
variable {X : Cx}
theorem itemL {elt : Expr} {te : TE} {D : Addr} (he : PE X elt te) (hx : X.xe = fun _ _ => False) : ItemOk X (ItemL X.prog X.w X.A elt (.ref D) X.env) (emL te D) := by
  intro pins σ H s Nx Next N I q fin
  have r := he.run pins s σ H _ I q
  rw [hx] at r
  refine thnF r fun v s1 ⟨y, H1, I1, ry, acc, hD, hz, nx⟩ => ?_
  exact app_ok I1 hD hz ry fun s2 I2 => fin _ s2 I2 nx
theorem itemN {kx vx : Expr} {tk tv : TE} {D : Addr} (hu : X.A.units + 64 < cLine) (hk : PE X kx tk) (hv : PE X vx tv) (hx : X.xe = fun _ _ => False) : ItemOk X (ItemD X.prog X.w X.A kx vx D X.env) (emN X.w tk tv D) := by
  intro pins σ H s Nx Next N I q fin
  have r := hk.run pins s σ H _ I q
  rw [hx] at r
  refine thnF r fun u s1 ⟨y, H1, I1, ry, q1⟩ => ?_
  have r2 := hv.run pins s1 σ H1 _ I1 q1
  rw [hx] at r2
  refine thnF r2 fun z s2 ⟨yv, H2, I2, rz, kvs, k1, kb, eD, ko, ek, dk, eb, l2, nx⟩ => ?_
  subst ek
  cases ry
  exact put_n hu I2 eD ko dk eb l2 rz fun s3 I3 => fin _ s3 I3 nx
theorem itemK {kx vx : Expr} {tk tv : TE} {D : Addr} (hk : PE X kx tk) (hv : PE X vx tv) (hx : X.xe = fun _ _ => False) : ItemOk X (ItemD X.prog X.w X.A kx vx D X.env) (emK tk tv D) := by
  intro pins σ H s Nx Next N I q fin
  have r := hk.run pins s σ H _ I q
  rw [hx] at r
  refine thnF r fun u s1 ⟨y, H1, I1, ry, q1⟩ => ?_
  have r2 := hv.run pins s1 σ H1 _ I1 q1
  rw [hx] at r2
  refine thnF r2 fun z s2 ⟨yv, H2, I2, rz, kvs, k, ek, eD, l2, nx⟩ => ?_
  subst ek
  exact d_dictSet I2 eD l2 ry rz fun s3 I3 => fin _ s3 I3 nx
theorem cL_core {pins : List (Addr × Obj)} {s : Shared} {σ : L2.St} {H : Hp} {Q : VK} {elt tg iter : Expr} {ifs : List Expr} {gs : List Comprehension} {scope : Scope} {own : List (Str × Nat)} {pos pos' : Pos} {r : GR} {rs : List GR} {o0 : Addr → HO} {em : Addr → TItem} {use : Option (Value → Sem Unit)} {Qf : Value → Shared → Prop} (hc : X.calm = true) (hN : X.N.Nodup) (I : Inv X pins σ H s) (hi : PI X tg iter r.wi) (ok : BlkOk X.N X.env.scope scope own) (hvs : r.vs = own.map (·.2)) (hn : Nested r.vs rs)
    (hob : ∀ (H' : Hp) (h : Heap) (D : Addr), (D == sysModules) = false → h.get? D = some { cls := .type "list", data := .seq ([] : List Value).toArray } → ObjOk X.prog X.w H' h D (o0 D))
    (hg : ∀ s0 H0 C cl fp, PG (X.blk s0 H0 scope (compEnvC scope cl C X.env) fp) tg r.g) (ht : ∀ s0 H0 C cl fp, PTs (X.blk s0 H0 scope (compEnvC scope cl C X.env) fp) ifs r.tt)
    (hG : ∀ s0 H0 C cl fp, GensOk (X.blk s0 H0 scope (compEnvC scope cl C X.env) fp) gs rs)
    (he : ∀ s0 H0 C cl fp D, ItemOk (X.blk s0 H0 scope (compEnvC scope cl C X.env) fp) (ItemL X.prog X.w X.A elt (.ref D) (compEnvC scope cl C X.env)) (em D))
    (hs : ∀ x, foldedSetIterable iter X.env x = pure x) (h : tCN o0 em r rs σ H Q)
    (hRR : ∀ D C s1 m H1, Inv X pins σ H1 s1 → Q (.ref D) H1 → s1.heap.Ns C m → FpOk X pins H1 C → compPost (model X.prog X.w) X.A X.xe use Qf (.ref D) C (.ok .next) s1) :
    wpAny (model X.prog X.w) X.A (comprehension (.ListComp elt (⟨tg, iter, ifs, 0⟩ :: gs) scope pos) scope X.env pos' (newList []) false (eval iter X.env) use) Qf X.xe s := by
  have free : ∀ y ∈ scope.names, y.2 = .free → ∃ c, X.env.cells.lookup y.1 = some c := fun y hy e => by
    rcases ok.free y hy e with z | z
    · exact I.ok.has _ (.inl z)
    · exact I.ok.has _ (.inr z)
  refine wpAny_comprehension_free (use := use) rfl hs (closure_ok free) ok.kind (fun y hy e => by rw [ok.uniq y hy, e]) (thn (hi.run pins s σ H _ I h) fun xv sa hx => thn hx fun itv sb hb => ?_)
  obtain ⟨it, fp, tn, J, Hb, e, Ib, T, stb, fb, q⟩ := hb
  subst e
  refine wpAny_newObj_type (newEnv_comp ?_) (by show 0 ≤ sizeLine; decide)
  generalize hDe : sb.heap.objs.size = D
  obtain ⟨W, ⟨m0, w0⟩, turn⟩ := q D (Ib.hok.fresh (Nat.le_of_eq hDe))
  generalize hsc : ({ sb with heap := sb.heap.push { cls := .type "list", data := .seq ([] : List Value).toArray } } : Shared) = sc
  have hsc' : sc.heap = sb.heap.push { cls := .type "list", data := .seq ([] : List Value).toArray } := by rw [← hsc]
  have Ic : Inv X pins σ (upd Hb D (o0 D)) sc := by
    rw [← hsc]
    refine Ib.laid (t' := sb.toks) (fun _ _ e => Heap.get?_push_of_some _ e) (Nat.le_of_eq hDe) ?_
    rw [← hDe]
    exact hob _ _ _ (beq_eq_false_iff_ne.mpr (Ne.symm (Nat.ne_of_lt Ib.big))) (Heap.get?_push_size _ rfl)
  have old : ∀ b ∈ fp, b < sb.heap.objs.size := fun b hb => by
    obtain ⟨_, z, _⟩ := T.obj _ _ stb b hb
    exact Heap.lt_size z
  have fc : ∀ b ∈ fp, FpOk X pins (upd Hb D (o0 D)) b ∧ b < sc.heap.objs.size := fun b hb => by
    have z := old b hb
    refine ⟨⟨by rw [upd_ne (by rw [← hDe]; exact Nat.ne_of_lt z)]; exact (fb b hb).1, (fb b hb).2⟩, ?_⟩
    rw [hsc', Heap.size_push]
    exact Nat.lt_succ_of_lt z
  have stc : tn 0 sc.heap := T.keep _ _ _ stb fun b _ o e => by rw [hsc']; exact Heap.get?_push_of_some _ e
  have Id := block_start Ic ok hN fc
  have pg := hg sc (upd Hb D (o0 D)) sc.heap.objs.size (cellsFrom (sc.heap.objs.size + 1) scope.names (cloFrom X.env.cells scope.names [])) fp
  have pt := ht sc (upd Hb D (o0 D)) sc.heap.objs.size (cellsFrom (sc.heap.objs.size + 1) scope.names (cloFrom X.env.cells scope.names [])) fp
  have pG := hG sc (upd Hb D (o0 D)) sc.heap.objs.size (cellsFrom (sc.heap.objs.size + 1) scope.names (cloFrom X.env.cells scope.names [])) fp
  have pI := he sc (upd Hb D (o0 D)) sc.heap.objs.size (cellsFrom (sc.heap.objs.size + 1) scope.names (cloFrom X.env.cells scope.names [])) fp D
  show codeAny _ _ (.compStart (.ListComp elt (⟨tg, iter, ifs, 0⟩ :: gs) scope pos) 0 (.ref it) (.ref D) (compEnvC scope (cellsFrom (sc.heap.objs.size + 1) scope.names (cloFrom X.env.cells scope.names [])) sc.heap.objs.size X.env)) _ { sc with heap := pushCells (sc.heap.push { cls := .type "dict", data := .dict #[] }) scope.names }
  have nfp : ∀ b ∈ fp, (upd Hb D (o0 D)) b = none := fun b hb => (fc b hb).1.1
  generalize hce : compEnvC scope (cellsFrom (sc.heap.objs.size + 1) scope.names (cloFrom X.env.cells scope.names [])) sc.heap.objs.size X.env = ce at Id pg pt pG pI ⊢
  have cL : ce.locals = sc.heap.objs.size := by subst hce; rfl
  generalize hHc : upd Hb D (o0 D) = Hc at Ic Id pg pt pG pI w0 nfp fc
  generalize hsd : ({ sc with heap := pushCells (sc.heap.push { cls := .type "dict", data := .dict #[] }) scope.names } : Shared) = sd at Id ⊢
  have std : tn 0 sd.heap := T.keep _ _ _ stc fun b _ o e => by rw [← hsd]; exact pushCells_keeps _ _ _ _ (Heap.get?_push_of_some _ e)
  have stat : ∀ {σ1 : L2.St} {H1 : Hp} {s1 : Shared}, Inv (X.blk sc Hc scope ce fp) [] σ1 H1 s1 → (∀ b ∈ fp, H1 b = none) → ∀ b ∈ fp, FpOk (X.blk sc Hc scope ce fp) [] H1 b := fun {σ1 H1 s1} J1 nn b hb =>
    ⟨nn b hb, (J1.ok.exf b hb).1, J1.ok.exfs b hb, .inl hb, fun x c e => (J1.ok.exf b hb).2 x c e, fun p hp => absurd (show p ∈ ([] : List (Addr × Obj)) ++ [] from hp) (by simp)⟩
  rw [← hvs] at Id
  have E : Eng X.prog X.w X.A (.ListComp elt (⟨tg, iter, ifs, 0⟩ :: gs) scope pos) (⟨tg, iter, ifs, 0⟩ :: gs) (.ref D) ce (ItemL X.prog X.w X.A elt (.ref D) ce) := engL
  have loop : ∀ R, (∀ s6 m H5, Inv X pins σ H5 s6 → Q (.ref D) H5 → s6.heap.Ns sc.heap.objs.size m → FpOk X pins H5 sc.heap.objs.size → R (.ok .next) s6) → codeAny (model X.prog X.w) X.A (.compLoop (.ListComp elt (⟨tg, iter, ifs, 0⟩ :: gs) scope pos) 0 (.ref it) (.ref D) ce) R sd := fun R hR => by
    refine E.loop (d := 0) (gs := gs) rfl (GensOk.src pG) (fun n s1 => ∃ i H1, Inv (X.blk sc Hc scope ce fp) [] (wipe σ r.vs) H1 s1 ∧ tn i s1.heap ∧ (∀ b ∈ fp, H1 b = none) ∧ W i n H1) (fun n s5 ⟨i, H5, I5, st5, n5, w5⟩ => ?_) m0 sd ⟨0, Hc, Id, std, nfp, w0⟩
    refine turn_ok (Y := X.blk sc Hc scope ce fp) (V := r.vs) (rs := rs) (Nx0 := fun H' => Q (.ref D) H') (W := W) rfl hc pg pt T hn (inner (Y := X.blk sc Hc scope ce fp) E rfl hc pI rs r.vs gs 0 rfl pG hn) I5 st5 (stat I5 n5) (turn i n H5 w5) (fun s6 I6 fine => ?_) fun m' H9 s9 lt I9 st9 n9 w9 => ⟨m', lt, i + 1, H9, I9, st9, n9, w9⟩
    have I7 : Inv X pins σ H5 s6 := Ic.call' (ch := fp) I6.os I6.base I6.hok I6.bare fun b hb => ⟨(fc b hb).1.2.2.2.1, (fc b hb).1.2.1, (fc b hb).1.2.2.2.2.1, (fc b hb).1.2.2.2.2.2⟩
    have nC : H5 sc.heap.objs.size = none := by
      rw [← cL]
      exact I6.free
    obtain ⟨mm, hmm, _⟩ := I6.loc
    have hm2 : s6.heap.Ns ce.locals mm := hmm
    rw [cL] at hm2
    exact hR s6 mm H5 I7 fine hm2 (Ic.fpOk (Nat.le_refl _) nC)
  have lp := loop (compPost (model X.prog X.w) X.A X.xe use Qf (.ref D) sc.heap.objs.size) fun s6 m H5 a b c d => hRR D sc.heap.objs.size s6 m H5 a b c d
  exact codeAny_compStart_list lp (T.self X.A 0 _ _ _ std lp)
theorem pe_cL {elt tg iter : Expr} {ifs : List Expr} {gs : List Comprehension} {scope : Scope} {own : List (Str × Nat)} {pos : Pos} {r : GR} {rs : List GR} {o0 : Addr → HO} {em : Addr → TItem} (hc : X.calm = true) (hN : X.N.Nodup) (hi : PI X tg iter r.wi) (ok : BlkOk X.N X.env.scope scope own) (hvs : r.vs = own.map (·.2)) (hn : Nested r.vs rs)
    (hob : ∀ (H' : Hp) (h : Heap) (D : Addr), (D == sysModules) = false → h.get? D = some { cls := .type "list", data := .seq ([] : List Value).toArray } → ObjOk X.prog X.w H' h D (o0 D))
    (hg : ∀ s0 H0 C cl fp, PG (X.blk s0 H0 scope (compEnvC scope cl C X.env) fp) tg r.g) (ht : ∀ s0 H0 C cl fp, PTs (X.blk s0 H0 scope (compEnvC scope cl C X.env) fp) ifs r.tt)
    (hG : ∀ s0 H0 C cl fp, GensOk (X.blk s0 H0 scope (compEnvC scope cl C X.env) fp) gs rs)
    (he : ∀ s0 H0 C cl fp D, ItemOk (X.blk s0 H0 scope (compEnvC scope cl C X.env) fp) (ItemL X.prog X.w X.A elt (.ref D) (compEnvC scope cl C X.env)) (em D))
    (hs : ∀ x, foldedSetIterable iter X.env x = pure x := by intro _; rfl) : PE X (.ListComp elt (⟨tg, iter, ifs, 0⟩ :: gs) scope pos) (tCN o0 em r rs) := by
  refine ⟨fun pins s σ H Q I h => ?_⟩
  rw [eval_ListComp]
  refine cL_core hc hN I hi ok hvs hn hob hg ht hG he hs h fun D C s1 m H1 I1 q hm f => ⟨m, hm, fun h2 sb2 => ?_⟩
  obtain ⟨f0, f1, _, f3, f4, f5⟩ := f
  exact ⟨.ref D, H1, I1.turned (t' := s1.toks) (fun b o hb e => (sb2.2 b hb).trans e) f0 f1 f3 f4 f5, rfl, q⟩
theorem ps_setCL {i : Nat} {y : Str} {py : Pos} {elt tg iter : Expr} {ifs : List Expr} {gs : List Comprehension} {scope : Scope} {own : List (Str × Nat)} {pos spos : Pos} {r : GR} {rs : List GR} {o0 : Addr → HO} {em : Addr → TItem} (hc : X.calm = true) (hN : X.N.Nodup) (hy : X.N[i]? = some y) (hyl : X.env.scope.names.lookup y = some .local)
    (hsw : swapsWith (.ListComp elt (⟨tg, iter, ifs, 0⟩ :: gs) scope pos) (some (.Name y py)) spos.line X.env = pure true) (hi : PI X tg iter r.wi) (ok : BlkOk X.N X.env.scope scope own) (hvs : r.vs = own.map (·.2)) (hn : Nested r.vs rs)
    (hob : ∀ (H' : Hp) (h : Heap) (D : Addr), (D == sysModules) = false → h.get? D = some { cls := .type "list", data := .seq ([] : List Value).toArray } → ObjOk X.prog X.w H' h D (o0 D))
    (hg : ∀ s0 H0 C cl fp, PG (X.blk s0 H0 scope (compEnvC scope cl C X.env) fp) tg r.g) (ht : ∀ s0 H0 C cl fp, PTs (X.blk s0 H0 scope (compEnvC scope cl C X.env) fp) ifs r.tt)
    (hG : ∀ s0 H0 C cl fp, GensOk (X.blk s0 H0 scope (compEnvC scope cl C X.env) fp) gs rs)
    (he : ∀ s0 H0 C cl fp D, ItemOk (X.blk s0 H0 scope (compEnvC scope cl C X.env) fp) (ItemL X.prog X.w X.A elt (.ref D) (compEnvC scope cl C X.env)) (em D))
    (hs : ∀ x, foldedSetIterable iter X.env x = pure x := by intro _; rfl) : PS X (.Assign [.Name y py] (.ListComp elt (⟨tg, iter, ifs, 0⟩ :: gs) scope pos) spos) (tAsg (tCN o0 em r rs) (gName i)) := by
  refine ⟨fun pins s σ H D I h => ?_⟩
  rw [exec_Assign_Name_used _ _ _ _ hsw]
  apply wpAny_bind
  apply wpAny_standAt
  apply wpAny_bind
  show wpAny _ X.A (do let _ ← comprehension (.ListComp elt (⟨tg, iter, ifs, 0⟩ :: gs) scope pos) scope X.env (firstIterPos (⟨tg, iter, ifs, 0⟩ :: gs) pos) (newList []) false (eval iter X.env) (some (assign (.Name y py) X.env))) _ _ s
  have h : tCN o0 em r rs σ H (fun x H1 => gName i x σ H1 D.nx) := h
  apply wpAny_bind
  exact thn (cL_core (Qf := fun _ s2 => SP X pins D .next s2) hc hN I hi ok hvs hn hob hg ht hG he hs h fun L C s1 m H1 I1 q hm f => stored_swap hN hy hyl I1 q hm f) fun _ s1 hq => wpAny_pure (wpAny_pure hq)
theorem cD_core {pins : List (Addr × Obj)} {s : Shared} {σ : L2.St} {H : Hp} {Q : VK} {kx vx tg iter : Expr} {ifs : List Expr} {gs : List Comprehension} {scope : Scope} {own : List (Str × Nat)} {pos pos' : Pos} {r : GR} {rs : List GR} {o0 : Addr → HO} {em : Addr → TItem} {use : Option (Value → Sem Unit)} {Qf : Value → Shared → Prop} (hc : X.calm = true) (hN : X.N.Nodup) (I : Inv X pins σ H s) (hi : PI X tg iter r.wi) (ok : BlkOk X.N X.env.scope scope own) (hvs : r.vs = own.map (·.2)) (hn : Nested r.vs rs)
    (hob : ∀ (H' : Hp) (h : Heap) (D : Addr), (D == sysModules) = false → h.get? D = some { cls := .type "dict", data := .dict #[] } → ObjOk X.prog X.w H' h D (o0 D))
    (hg : ∀ s0 H0 C cl fp, PG (X.blk s0 H0 scope (compEnvC scope cl C X.env) fp) tg r.g) (ht : ∀ s0 H0 C cl fp, PTs (X.blk s0 H0 scope (compEnvC scope cl C X.env) fp) ifs r.tt)
    (hG : ∀ s0 H0 C cl fp, GensOk (X.blk s0 H0 scope (compEnvC scope cl C X.env) fp) gs rs)
    (he : ∀ s0 H0 C cl fp D, ItemOk (X.blk s0 H0 scope (compEnvC scope cl C X.env) fp) (ItemD X.prog X.w X.A kx vx D (compEnvC scope cl C X.env)) (em D))
    (hs : ∀ x, foldedSetIterable iter X.env x = pure x) (h : tCN o0 em r rs σ H Q)
    (hRR : ∀ D C s1 m H1, Inv X pins σ H1 s1 → Q (.ref D) H1 → s1.heap.Ns C m → FpOk X pins H1 C → compPost (model X.prog X.w) X.A X.xe use Qf (.ref D) C (.ok .next) s1) :
    wpAny (model X.prog X.w) X.A (comprehension (.DictComp kx vx (⟨tg, iter, ifs, 0⟩ :: gs) scope pos) scope X.env pos' newDict false (eval iter X.env) use) Qf X.xe s := by
  have free : ∀ y ∈ scope.names, y.2 = .free → ∃ c, X.env.cells.lookup y.1 = some c := fun y hy e => by
    rcases ok.free y hy e with z | z
    · exact I.ok.has _ (.inl z)
    · exact I.ok.has _ (.inr z)
  refine wpAny_comprehension_free (use := use) rfl hs (closure_ok free) ok.kind (fun y hy e => by rw [ok.uniq y hy, e]) (thn (hi.run pins s σ H _ I h) fun xv sa hx => thn hx fun itv sb hb => ?_)
  obtain ⟨it, fp, tn, J, Hb, e, Ib, T, stb, fb, q⟩ := hb
  subst e
  refine wpAny_newObj_type (newEnv_comp ?_)
  generalize hDe : sb.heap.objs.size = D
  obtain ⟨W, ⟨m0, w0⟩, turn⟩ := q D (Ib.hok.fresh (Nat.le_of_eq hDe))
  generalize hsc : ({ sb with heap := sb.heap.push { cls := .type "dict", data := .dict #[] } } : Shared) = sc
  have hsc' : sc.heap = sb.heap.push { cls := .type "dict", data := .dict #[] } := by rw [← hsc]
  have Ic : Inv X pins σ (upd Hb D (o0 D)) sc := by
    rw [← hsc]
    refine Ib.laid (t' := sb.toks) (fun _ _ e => Heap.get?_push_of_some _ e) (Nat.le_of_eq hDe) ?_
    rw [← hDe]
    exact hob _ _ _ (beq_eq_false_iff_ne.mpr (Ne.symm (Nat.ne_of_lt Ib.big))) (Heap.get?_push_size _ rfl)
  have old : ∀ b ∈ fp, b < sb.heap.objs.size := fun b hb => by
    obtain ⟨_, z, _⟩ := T.obj _ _ stb b hb
    exact Heap.lt_size z
  have fc : ∀ b ∈ fp, FpOk X pins (upd Hb D (o0 D)) b ∧ b < sc.heap.objs.size := fun b hb => by
    have z := old b hb
    refine ⟨⟨by rw [upd_ne (by rw [← hDe]; exact Nat.ne_of_lt z)]; exact (fb b hb).1, (fb b hb).2⟩, ?_⟩
    rw [hsc', Heap.size_push]
    exact Nat.lt_succ_of_lt z
  have stc : tn 0 sc.heap := T.keep _ _ _ stb fun b _ o e => by rw [hsc']; exact Heap.get?_push_of_some _ e
  have Id := block_start Ic ok hN fc
  have pg := hg sc (upd Hb D (o0 D)) sc.heap.objs.size (cellsFrom (sc.heap.objs.size + 1) scope.names (cloFrom X.env.cells scope.names [])) fp
  have pt := ht sc (upd Hb D (o0 D)) sc.heap.objs.size (cellsFrom (sc.heap.objs.size + 1) scope.names (cloFrom X.env.cells scope.names [])) fp
  have pG := hG sc (upd Hb D (o0 D)) sc.heap.objs.size (cellsFrom (sc.heap.objs.size + 1) scope.names (cloFrom X.env.cells scope.names [])) fp
  have pI := he sc (upd Hb D (o0 D)) sc.heap.objs.size (cellsFrom (sc.heap.objs.size + 1) scope.names (cloFrom X.env.cells scope.names [])) fp D
  show codeAny _ _ (.compStart (.DictComp kx vx (⟨tg, iter, ifs, 0⟩ :: gs) scope pos) 0 (.ref it) (.ref D) (compEnvC scope (cellsFrom (sc.heap.objs.size + 1) scope.names (cloFrom X.env.cells scope.names [])) sc.heap.objs.size X.env)) _ { sc with heap := pushCells (sc.heap.push { cls := .type "dict", data := .dict #[] }) scope.names }
  have nfp : ∀ b ∈ fp, (upd Hb D (o0 D)) b = none := fun b hb => (fc b hb).1.1
  generalize hce : compEnvC scope (cellsFrom (sc.heap.objs.size + 1) scope.names (cloFrom X.env.cells scope.names [])) sc.heap.objs.size X.env = ce at Id pg pt pG pI ⊢
  have cL : ce.locals = sc.heap.objs.size := by subst hce; rfl
  generalize hHc : upd Hb D (o0 D) = Hc at Ic Id pg pt pG pI w0 nfp fc
  generalize hsd : ({ sc with heap := pushCells (sc.heap.push { cls := .type "dict", data := .dict #[] }) scope.names } : Shared) = sd at Id ⊢
  have std : tn 0 sd.heap := T.keep _ _ _ stc fun b _ o e => by rw [← hsd]; exact pushCells_keeps _ _ _ _ (Heap.get?_push_of_some _ e)
  have stat : ∀ {σ1 : L2.St} {H1 : Hp} {s1 : Shared}, Inv (X.blk sc Hc scope ce fp) [] σ1 H1 s1 → (∀ b ∈ fp, H1 b = none) → ∀ b ∈ fp, FpOk (X.blk sc Hc scope ce fp) [] H1 b := fun {σ1 H1 s1} J1 nn b hb =>
    ⟨nn b hb, (J1.ok.exf b hb).1, J1.ok.exfs b hb, .inl hb, fun x c e => (J1.ok.exf b hb).2 x c e, fun p hp => absurd (show p ∈ ([] : List (Addr × Obj)) ++ [] from hp) (by simp)⟩
  rw [← hvs] at Id
  have E : Eng X.prog X.w X.A (.DictComp kx vx (⟨tg, iter, ifs, 0⟩ :: gs) scope pos) (⟨tg, iter, ifs, 0⟩ :: gs) (.ref D) ce (ItemD X.prog X.w X.A kx vx D ce) := engD
  have loop : ∀ R, (∀ s6 m H5, Inv X pins σ H5 s6 → Q (.ref D) H5 → s6.heap.Ns sc.heap.objs.size m → FpOk X pins H5 sc.heap.objs.size → R (.ok .next) s6) → codeAny (model X.prog X.w) X.A (.compLoop (.DictComp kx vx (⟨tg, iter, ifs, 0⟩ :: gs) scope pos) 0 (.ref it) (.ref D) ce) R sd := fun R hR => by
    refine E.loop (d := 0) (gs := gs) rfl (GensOk.src pG) (fun n s1 => ∃ i H1, Inv (X.blk sc Hc scope ce fp) [] (wipe σ r.vs) H1 s1 ∧ tn i s1.heap ∧ (∀ b ∈ fp, H1 b = none) ∧ W i n H1) (fun n s5 ⟨i, H5, I5, st5, n5, w5⟩ => ?_) m0 sd ⟨0, Hc, Id, std, nfp, w0⟩
    refine turn_ok (Y := X.blk sc Hc scope ce fp) (V := r.vs) (rs := rs) (Nx0 := fun H' => Q (.ref D) H') (W := W) rfl hc pg pt T hn (inner (Y := X.blk sc Hc scope ce fp) E rfl hc pI rs r.vs gs 0 rfl pG hn) I5 st5 (stat I5 n5) (turn i n H5 w5) (fun s6 I6 fine => ?_) fun m' H9 s9 lt I9 st9 n9 w9 => ⟨m', lt, i + 1, H9, I9, st9, n9, w9⟩
    have I7 : Inv X pins σ H5 s6 := Ic.call' (ch := fp) I6.os I6.base I6.hok I6.bare fun b hb => ⟨(fc b hb).1.2.2.2.1, (fc b hb).1.2.1, (fc b hb).1.2.2.2.2.1, (fc b hb).1.2.2.2.2.2⟩
    have nC : H5 sc.heap.objs.size = none := by
      rw [← cL]
      exact I6.free
    obtain ⟨mm, hmm, _⟩ := I6.loc
    have hm2 : s6.heap.Ns ce.locals mm := hmm
    rw [cL] at hm2
    exact hR s6 mm H5 I7 fine hm2 (Ic.fpOk (Nat.le_refl _) nC)
  have lp := loop (compPost (model X.prog X.w) X.A X.xe use Qf (.ref D) sc.heap.objs.size) fun s6 m H5 a b c d => hRR D sc.heap.objs.size s6 m H5 a b c d
  exact codeAny_compStart_dict lp (T.self X.A 0 _ _ _ std lp)
theorem pe_cD {kx vx tg iter : Expr} {ifs : List Expr} {gs : List Comprehension} {scope : Scope} {own : List (Str × Nat)} {pos : Pos} {r : GR} {rs : List GR} {o0 : Addr → HO} {em : Addr → TItem} (hc : X.calm = true) (hN : X.N.Nodup) (hi : PI X tg iter r.wi) (ok : BlkOk X.N X.env.scope scope own) (hvs : r.vs = own.map (·.2)) (hn : Nested r.vs rs)
    (hob : ∀ (H' : Hp) (h : Heap) (D : Addr), (D == sysModules) = false → h.get? D = some { cls := .type "dict", data := .dict #[] } → ObjOk X.prog X.w H' h D (o0 D))
    (hg : ∀ s0 H0 C cl fp, PG (X.blk s0 H0 scope (compEnvC scope cl C X.env) fp) tg r.g) (ht : ∀ s0 H0 C cl fp, PTs (X.blk s0 H0 scope (compEnvC scope cl C X.env) fp) ifs r.tt)
    (hG : ∀ s0 H0 C cl fp, GensOk (X.blk s0 H0 scope (compEnvC scope cl C X.env) fp) gs rs)
    (he : ∀ s0 H0 C cl fp D, ItemOk (X.blk s0 H0 scope (compEnvC scope cl C X.env) fp) (ItemD X.prog X.w X.A kx vx D (compEnvC scope cl C X.env)) (em D))
    (hs : ∀ x, foldedSetIterable iter X.env x = pure x := by intro _; rfl) : PE X (.DictComp kx vx (⟨tg, iter, ifs, 0⟩ :: gs) scope pos) (tCN o0 em r rs) := by
  refine ⟨fun pins s σ H Q I h => ?_⟩
  rw [arm_eval_DictComp]
  refine cD_core hc hN I hi ok hvs hn hob hg ht hG he hs h fun D C s1 m H1 I1 q hm f => ⟨m, hm, fun h2 sb2 => ?_⟩
  obtain ⟨f0, f1, _, f3, f4, f5⟩ := f
  exact ⟨.ref D, H1, I1.turned (t' := s1.toks) (fun b o hb e => (sb2.2 b hb).trans e) f0 f1 f3 f4 f5, rfl, q⟩
theorem ps_setCD {i : Nat} {y : Str} {py : Pos} {kx vx tg iter : Expr} {ifs : List Expr} {gs : List Comprehension} {scope : Scope} {own : List (Str × Nat)} {pos spos : Pos} {r : GR} {rs : List GR} {o0 : Addr → HO} {em : Addr → TItem} (hc : X.calm = true) (hN : X.N.Nodup) (hy : X.N[i]? = some y) (hyl : X.env.scope.names.lookup y = some .local)
    (hsw : swapsWith (.DictComp kx vx (⟨tg, iter, ifs, 0⟩ :: gs) scope pos) (some (.Name y py)) spos.line X.env = pure true) (hi : PI X tg iter r.wi) (ok : BlkOk X.N X.env.scope scope own) (hvs : r.vs = own.map (·.2)) (hn : Nested r.vs rs)
    (hob : ∀ (H' : Hp) (h : Heap) (D : Addr), (D == sysModules) = false → h.get? D = some { cls := .type "dict", data := .dict #[] } → ObjOk X.prog X.w H' h D (o0 D))
    (hg : ∀ s0 H0 C cl fp, PG (X.blk s0 H0 scope (compEnvC scope cl C X.env) fp) tg r.g) (ht : ∀ s0 H0 C cl fp, PTs (X.blk s0 H0 scope (compEnvC scope cl C X.env) fp) ifs r.tt)
    (hG : ∀ s0 H0 C cl fp, GensOk (X.blk s0 H0 scope (compEnvC scope cl C X.env) fp) gs rs)
    (he : ∀ s0 H0 C cl fp D, ItemOk (X.blk s0 H0 scope (compEnvC scope cl C X.env) fp) (ItemD X.prog X.w X.A kx vx D (compEnvC scope cl C X.env)) (em D))
    (hs : ∀ x, foldedSetIterable iter X.env x = pure x := by intro _; rfl) : PS X (.Assign [.Name y py] (.DictComp kx vx (⟨tg, iter, ifs, 0⟩ :: gs) scope pos) spos) (tAsg (tCN o0 em r rs) (gName i)) := by
  refine ⟨fun pins s σ H D I h => ?_⟩
  rw [exec_Assign_Name_used _ _ _ _ hsw]
  apply wpAny_bind
  apply wpAny_standAt
  apply wpAny_bind
  show wpAny _ X.A (do let _ ← comprehension (.DictComp kx vx (⟨tg, iter, ifs, 0⟩ :: gs) scope pos) scope X.env (firstIterPos (⟨tg, iter, ifs, 0⟩ :: gs) pos) newDict false (eval iter X.env) (some (assign (.Name y py) X.env))) _ _ s
  have h : tCN o0 em r rs σ H (fun x H1 => gName i x σ H1 D.nx) := h
  apply wpAny_bind
  exact thn (cD_core (Qf := fun _ s2 => SP X pins D .next s2) hc hN I hi ok hvs hn hob hg ht hG he hs h fun L C s1 m H1 I1 q hm f => stored_swap hN hy hyl I1 q hm f) fun _ s1 hq => wpAny_pure (wpAny_pure hq)
end
end AE

set_option Elab.async false
set_option linter.all false
set_option maxRecDepth 100000
set_option maxHeartbeats 2000000
/-! the keys of a dict whose keys are nested tuples: for, list(..) -/
namespace AE
open PySem PySem.Spec PyProof.Rows L2 Evl
section
variable {X : Cx} {pins : List (Addr × Obj)} {σ : L2.St} {H : Hp} {s : Shared}
theorem dn_raw {h : Heap} {d : Addr} {kvs : List NE} (z : DN X.w d kvs h) : (d == sysModules) = false ∧ ∃ (o : Obj) (es : Array DictEntry) (ep : Nat), h.get? d = some o ∧ o.ExactDict ∧ o.data = .dict es ep ∧ es.size = kvs.length ∧
    ∀ (i : Nat) (k : NK) (b : Addr) (v : V), kvs[i]? = some (k, b, v) → ∃ en : DictEntry, es[i]? = some en ∧ en.key = .ref b := by
  obtain ⟨_, hs, xs, r, o, es, ep, ho, hx, hd, he, _⟩ := z
  have lx : kvs.length = xs.length := Paired.length r
  have le : es.size = xs.length := by rw [← Array.length_toList, he, List.length_map]
  refine ⟨hs, o, es, ep, ho, hx, hd, by omega, fun i k b v e => ?_⟩
  have il : i < xs.length := by rw [← lx]; exact (List.getElem?_eq_some_iff.mp e).1
  have at_ : ∀ {l : List NE} {m : List (NK × Addr × Value)}, NR l m → ∀ {i : Nat} {p : NE}, l[i]? = some p → ∃ q, m[i]? = some q ∧ p.2.1 = q.2.1 := by
    intro l m q
    induction q with
    | nil => intro i p z; cases z
    | cons h t ih =>
      intro i p z
      cases i with
      | zero => cases z; exact ⟨_, rfl, h.2.1⟩
      | succ i => exact ih z
  obtain ⟨q, hq, eb⟩ := at_ r e
  refine ⟨entryN X.w q, ?_, ?_⟩
  · rw [← Array.getElem?_toList, he, List.getElem?_map, hq]
    rfl
  · show Value.ref q.2.1 = _
    rw [← eb]
theorem frz_raw {d : Addr} {o : Obj} {kvs : List NE} (I : Inv X pins σ H s) (h : H d = some (.frz o (dN X.w d kvs))) : (d == sysModules) = false ∧ s.heap.get? d = some o ∧ o.ExactDict ∧ ∃ (es : Array DictEntry) (ep : Nat), o.data = .dict es ep ∧ es.size = kvs.length ∧
    ∀ (i : Nat) (k : NK) (b : Addr) (v : V), kvs[i]? = some (k, b, v) → ∃ en : DictEntry, es[i]? = some en ∧ en.key = .ref b := by
  obtain ⟨hd, z⟩ := I.hok d _ h
  obtain ⟨hs, o2, es, ep, ho, hx, hdt, hsz, ent⟩ := dn_raw (X := X) z.1
  rw [hd] at ho
  cases ho
  exact ⟨hs, hd, hx, es, ep, hdt, hsz, ent⟩
/-- what a walk over such a dict yields while it is locked -/
def ItkN (w : World) (d : Addr) (o : Obj) (kvs : List NE) : It :=
  ⟨fun i H => H d = some (.frz o (dN w d kvs)) ∧ i < kvs.length, fun i H x H' => H' = H ∧ ∃ (k : NK) (b : Addr) (v : V), kvs[i]? = some (k, b, v) ∧ x = .ref b, fun i H => H d = some (.frz o (dN w d kvs)) ∧ kvs.length ≤ i⟩
theorem turn_keysN {P : Program} {w : World} {K : PySem.W.Frag} {tg : Expr} {d : Addr} {o : Obj} {es : Array DictEntry} {ep : Nat} {kvs : List NE} (it : Addr) (hod : o.data = .dict es ep) : Turn P w K tg (ItkN w d o kvs) [it] it (fun i h => h.IsKeyIter it d i kvs.length ep) where
  mem := by simp
  obj := fun i h st b hb => by
    obtain rfl : b = it := by simpa using hb
    obtain ⟨oi, e, _, dd⟩ := st
    exact ⟨oi, e, fun v z => by rw [dd] at z; cases z⟩
  keep := fun i h h' st k => st.at fun oi e => k it (by simp) oi e
  item := by
    intro X hP hw hK hc i pins s σ H E I hf st hg
    subst hP hw hK
    obtain ⟨hd, hi⟩ := hg
    obtain ⟨f0, f1, f2, f3, f4, f5⟩ := hf it (by simp)
    obtain ⟨hs, hgd, hx, es2, ep2, hdt, hsz, ent⟩ := frz_raw I hd
    obtain ⟨rfl, rfl⟩ := dict_ep hod hdt
    obtain ⟨⟨k, b, v⟩, hkv⟩ : ∃ p, kvs[i]? = some p := ⟨kvs[i], List.getElem?_eq_getElem hi⟩
    obtain ⟨en, hen, hkey⟩ := ent i k b v hkv
    refine next_key_item st hgd hdt hsz hen fun h2 st2 sb => ?_
    have I2 : Inv X pins σ H { s with heap := h2 } := I.turned (t' := s.toks) (fun c ob hc e => (sb.2 c hc).trans e) f0 f1 f3 f4 f5
    obtain ⟨oi, e, c, dd⟩ := id st2
    exact ⟨en.key, rfl, go_of (s := { s with heap := h2 }) e c dd (by decide) ⟨.ref b, H, I2, hkey, ⟨rfl, k, b, v, hkv, rfl⟩, st2, fun c hc => (hf c hc).1⟩⟩
  done := by
    intro X hP hw hK hc i pins s σ H E I hf st hg
    subst hP hw hK
    obtain ⟨hd, hi⟩ := hg
    obtain ⟨f0, f1, f2, f3, f4, f5⟩ := hf it (by simp)
    obtain ⟨hs, hgd, hx, es2, ep2, hdt, hsz, ent⟩ := frz_raw I hd
    obtain ⟨rfl, rfl⟩ := dict_ep hod hdt
    exact next_key_end (I.ok.hd hc) st hgd hdt hsz hi fun h2 eb => ⟨rfl, I.turned (t' := s.toks) (fun c ob hc e => eb c ob hc e) f0 f1 f3 f4 f5⟩
  self := fun A i s Q E st h => by
    refine wpAny_pyIter_slot st.typeIs F.slot_dict_keyiterator_iter (wpAny_call_entry F.slot_dict_keyiterator_iter st.typeIs F.entry_dict_keyiterator_iter ?_ (F.args_dict_keyiterator_iter_1 _))
    show wpAny _ _ (ret (.ref it)) _ _ s
    exact wpAny_pure ⟨_, rfl, _, _, st.typeIs, F.slot_dict_keyiterator_next.lookup, h⟩
def iKeysN (w : World) (td : TE) : TI := fun σ H R => td σ H fun x H1 => ∃ d o kvs, x = .ref d ∧ H1 d = some (.frz o (dN w d kvs)) ∧ R (ItkN w d o kvs) H1
theorem pi_keysN {tg e : Expr} {td : TE} (he : PE X e td) : PI X tg e (iKeysN X.w td) := by
  refine ⟨fun pins s σ H R I h => ?_⟩
  refine thn (he.run pins s σ H _ I h) fun u s1 ⟨x, H1, I1, rx, d, o, kvs, ex, hd, q⟩ => ?_
  subst ex
  cases rx
  obtain ⟨hs, hgd, hx, es, ep, hdt, hsz, _⟩ := frz_raw I1 hd
  refine iter_keys hs hgd hx hdt (pi_one (tk := s1.toks) I1 _ (turn_keysN _ hdt) ⟨_, Heap.get?_push_size _ rfl, rfl, ?_⟩ q)
  rw [hsz] <;> rfl
/-- list(d) -/
def cKeysN (w : World) : List V → Hp → VK → Prop := fun xs H Q => ∃ d kvs, xs = [V.ref d] ∧ Rd H d (dN w d kvs) ∧ ∀ p, H p = none → Q (.ref p) (upd H p (.lst (kvs.map fun e => V.ref e.2.1)))
theorem c_keysN (hc : X.calm = true) : CallR X (.type "list") (cKeysN X.w) := by
  intro pins s σ H xs us Q I r h
  obtain ⟨d, kvs, rfl, hd, q⟩ := h
  obtain ⟨u, rfl, rx⟩ := vals1 r
  cases rx
  have z : DN X.w d kvs s.heap := (hd.ok I.hok).1
  have zl := z.1
  obtain ⟨hs, o, es, ep, ho, hx, hdt, hsz, ent⟩ := dn_raw (X := X) z
  refine PySem.W.kdl_call (kdl_raw hs hx hdt) (I.ok.hd hc) ho (by omega) fun h2 tk acc c kp e it => ?_
  have la : acc.toList.length = kvs.length := by rw [Array.length_toList, it.1]; exact hsz
  refine ⟨.ref s.heap.objs.size, upd H s.heap.objs.size (.lst (kvs.map fun e => V.ref e.2.1)), I.laid kp (Nat.le_refl _) (show ObjOk X.prog X.w _ _ _ (.lst (kvs.map fun e => V.ref e.2.1)) from ⟨?_, acc.toList, c, ?_, ?_⟩), rfl, q _ (I.hok.fresh (Nat.le_refl _))⟩
  · rw [List.length_map]; exact zl
  · refine vals_of_at (by rw [List.length_map, la]) fun j x u h1 h2 => ?_
    rw [List.getElem?_map] at h1
    obtain ⟨⟨k, b, v⟩, hj, rfl⟩ := Option.map_eq_some_iff.mp h1
    obtain ⟨en, hen, hv⟩ := it.2 j u (by rw [← Array.getElem?_toList]; exact h2)
    obtain ⟨en2, hen2, hk2⟩ := ent j k b v hj
    rw [hen] at hen2
    cases hen2
    show u = Value.ref b
    rw [hv, hk2]
  · rw [Array.toArray_toList]; exact e
end
end AE

set_option Elab.async false
set_option linter.all false
set_option maxRecDepth 100000
set_option maxHeartbeats 1000000
/-! comprehensions with an «if» whose items are made; k in d under a comprehension; what a put dict holds -/
namespace AE
open PySem PySem.Spec PyProof.Rows L2 Evl
section
variable {K : PySem.W.Frag} {σ : L2.St} {H : Hp} {Q : VK} {ta tb te tl : TE} {tt : TT} {g : TG} {i j : Nat} {a b : Addr} {xs ys : List V} {J : It} {n : Nat} {G : Hp → Prop} {Y : Nat → Hp → V → Hp → Prop} {vs : List Nat}
theorem lcf (w : Walk J n G Y) (hz : n ≤ 1000000) {D : Addr} (hD : H D = none) (hG : ∀ H', Ex H H' → G H') (P : Nat → List V → Hp → Prop) (S : Stays P) (h0 : P 0 [] H)
    (step : ∀ i x acc Ha Hb, i < n → acc.length ≤ i → Ex H Ha → P i acc Ha → Y i Ha x Hb → ∀ (R : VK) (R2 : Hp → Prop), (∀ y He, Ex Ha He → P (i + 1) (acc ++ [y]) He → R y He) → (∀ He, Ex Ha He → P (i + 1) acc He → R2 He) →
      g x (wipe σ vs) Hb fun σ2 Hc => wipe σ2 vs = wipe σ vs ∧ tt σ2 Hc fun b Hd => if b = true then te σ2 Hd R else R2 Hd)
    {Qd : Hp → Prop} (k : ∀ acc H1, acc.length ≤ n → Ex H H1 → H1 D = some (.lst acc) → P n acc H1 → Qd H1) :
    ∃ W : Nat → Nat → Hp → Prop, (∃ m, W 0 m (upd H D (.lst []))) ∧ ∀ i m Ha, W i m Ha →
      (J.stop i Ha ∧ Qd Ha) ∨ (J.go i Ha ∧ ∃ Nx : Hp → Prop, (∀ Hb, Nx Hb → ∃ m', m' < m ∧ W (i + 1) m' Hb) ∧ ∀ x Hb, J.yld i Ha x Hb → g x (wipe σ vs) Hb fun σ2 Hc => wipe σ2 vs = wipe σ vs ∧ tt σ2 Hc fun b Hd =>
        if b = true then te σ2 Hd fun y He => ∃ acc, He D = some (.lst acc) ∧ acc.length < sizeLine ∧ Nx (upd He D (.lst (acc ++ [y]))) else Nx Hd) := by
  refine lc_it w (fun m Ha => ∃ acc, acc.length ≤ m ∧ Ex H Ha ∧ Ha D = some (.lst acc) ∧ P m acc Ha) ⟨[], Nat.le_refl _, Ex.new hD, upd_same, S.pex _ _ _ _ (Ex.new hD) h0⟩ (fun m Ha _ ⟨_, _, e, _⟩ => hG Ha e) ?_ fun Ha ⟨acc, ha, e, hd, hp⟩ => k acc Ha ha e hd hp
  rintro m x Ha Hb hm ⟨acc, ha, e1, hd, hp⟩ hy
  refine step m x acc Ha Hb hm ha e1 hp hy _ _ (fun y He e2 p2 => ?_) (fun He e2 p2 => ?_)
  · have hd2 := e2 _ _ hd
    exact ⟨acc, hd2, Nat.lt_of_le_of_lt (show acc.length ≤ 1000000 by omega) (by decide), acc ++ [y], by rw [List.length_append]; show acc.length + 1 ≤ _; omega, ex_upd (e1.trans e2) hD, upd_same, S.pch _ _ _ _ _ _ hd2 ch_upd p2⟩
  · exact ⟨acc, by omega, e1.trans e2, e2 _ _ hd, p2⟩
theorem lcf_r (P : Nat → List V → Hp → Prop) (S : Stays P) {tn : TA} {m : Int} (hv : ∀ R : List V → Hp → Prop, R [.int m] H → tn σ H R) (hz : 0 ≤ m ∧ m ≤ 1000000) (h0 : P 0 [] H)
    (step : ∀ (i : Nat) acc Ha, (i : Int) < m → acc.length ≤ i → Ex H Ha → P i acc Ha → ∀ (R : VK) (R2 : Hp → Prop), (∀ y He, Ex Ha He → P (i + 1) (acc ++ [y]) He → R y He) → (∀ He, Ex Ha He → P (i + 1) acc He → R2 He) →
      g (.int (i : Int)) (wipe σ vs) Ha fun σ2 Hc => wipe σ2 vs = wipe σ vs ∧ tt σ2 Hc fun b Hd => if b = true then te σ2 Hd R else R2 Hd)
    (k : ∀ D acc H1, H D = none → acc.length ≤ m.toNat → Ex H H1 → H1 D = some (.lst acc) → P m.toNat acc H1 → Q (.ref D) H1) : tLc (iRng1 tn) g tt te vs σ H Q :=
  hv _ ⟨m, rfl, by omega, by omega, fun D hD => lcf (walk_range (lo := 0) (n := m.toNat)) (by omega) hD (fun _ _ => trivial) P S h0 (fun i x acc Ha Hb hi ha e1 hp hy => by
    obtain ⟨rfl, rfl⟩ := hy
    have st := step i acc Hb (by omega) ha e1 hp
    show ∀ (R : VK) (R2 : Hp → Prop), (∀ y He, Ex Hb He → P (i + 1) (acc ++ [y]) He → R y He) → (∀ He, Ex Hb He → P (i + 1) acc He → R2 He) → g (.int (0 + (i : Int))) (wipe σ vs) Hb fun σ2 Hc => wipe σ2 vs = wipe σ vs ∧ tt σ2 Hc fun b Hd => if b = true then te σ2 Hd R else R2 Hd
    rw [Int.zero_add]
    exact st) fun acc H1 ha e h p => k D acc H1 hD ha e h p⟩
theorem lcf_l (P : Nat → List V → Hp → Prop) (S : Stays P) (hv : ∀ R : VK, R (.ref a) H → tl σ H R) (hx : SqL K H a xs) (hz : xs.length ≤ 1000000) (h0 : P 0 [] H)
    (step : ∀ i x acc Ha, xs[i]? = some x → acc.length ≤ i → Ex H Ha → P i acc Ha → ∀ (R : VK) (R2 : Hp → Prop), (∀ y He, Ex Ha He → P (i + 1) (acc ++ [y]) He → R y He) → (∀ He, Ex Ha He → P (i + 1) acc He → R2 He) →
      g x (wipe σ vs) Ha fun σ2 Hc => wipe σ2 vs = wipe σ vs ∧ tt σ2 Hc fun b Hd => if b = true then te σ2 Hd R else R2 Hd)
    (k : ∀ D acc H1, H D = none → acc.length ≤ xs.length → Ex H H1 → H1 D = some (.lst acc) → P xs.length acc H1 → Q (.ref D) H1) : tLc (iList K tl) g tt te vs σ H Q :=
  hv _ ⟨a, rfl, ⟨xs, hx⟩, fun D hD => lcf (walk_list (K := K) (a := a) (xs := xs)) hz hD (fun _ e => ex_l e hx) P S h0 (fun i x acc Ha Hb _ ha e1 hp hy => by
    obtain ⟨rfl, hy⟩ := hy
    exact step i x acc Hb hy ha e1 hp) fun acc H1 ha e h p => k D acc H1 hD ha e h p⟩
end
section
variable {X : Cx} {w : World} {o i : Expr} {td ty : TE}
theorem pc_ninK (hu : X.A.units + 64 < cLine) (hi : PE X i ty) (ho : PE X o td) (h : X.w = w := by rfl) : PC X .In i o (tNIn w ty td) := by subst h; exact pc_nin hu hi ho
end
theorem valN_put (kvs : List NE) (k k' : NK) (b : Addr) (v : V) : valN (putN kvs k b v) k' = if k = k' then some v else valN kvs k' := by
  unfold putN
  split
  · rename_i h
    have gen : ∀ l : List NE, valN (l.map fun x => if x.1 = k then (x.1, x.2.1, v) else x) k' = if k = k' then (valN l k').map fun _ => v else valN l k' := by
      intro l
      induction l with
      | nil => unfold valN; split <;> rfl
      | cons e l ih =>
        unfold valN at ih ⊢
        rw [List.map_cons, List.find?_cons, List.find?_cons]
        by_cases z : e.1 = k
        · rw [if_pos z]
          by_cases y : k = k'
          · rw [if_pos y]
            rw [show decide ((e.1, e.2.1, v).1 = k') = true from decide_eq_true (by rw [z, y])]
            rfl
          · rw [if_neg y, show decide ((e.1, e.2.1, v).1 = k') = false from decide_eq_false (by rw [z]; exact y)]
            rw [if_neg y] at ih
            exact ih
        · rw [if_neg z]
          by_cases y : e.1 = k'
          · rw [show decide (e.1 = k') = true from decide_eq_true y, if_neg (fun q => z (by rw [y, q]))]
          · rw [show decide (e.1 = k') = false from decide_eq_false y]
            exact ih
    rw [gen]
    split
    · rename_i e
      subst e
      obtain ⟨u, hu⟩ := Option.isSome_iff_exists.mp h
      rw [hu]
      rfl
    · rfl
  · rename_i h
    rw [valN_snoc]
    split
    · rename_i e
      subst e
      cases q : valN kvs k with
      | none => rfl
      | some u => rw [q] at h; exact absurd rfl h
    · cases valN kvs k' <;> rfl
end AE
namespace AE
open PySem PySem.Spec PyProof.Rows L2 Evl
section
variable {w : World} {td ty tv : TE} {σ : L2.St} {H : Hp} {D : Ends} {Q : VK}
theorem r_nput (q : tv σ H fun v H1 => td σ H1 fun x H2 => ty σ H2 fun y H3 => ∃ a H4, x = .ref a ∧ NPut w H3 a y v H4 ∧ D.nx σ H4) : sNPut w td ty tv D σ H := q
theorem r_nin (q : ty σ H fun y H1 => td σ H1 fun x H2 => ∃ a o, x = .ref a ∧ NGet w H2 a y o ∧ Q (.bl o.isSome) H2) : tNIn w ty td σ H Q := q
end
end AE

set_option Elab.async false
set_option linter.all false
set_option maxRecDepth 100000
set_option maxHeartbeats 2000000
/-! comprehensions with any number of «for»: the forms one uses -/
namespace AE
open PySem PySem.Spec PyProof.Rows L2 Evl
theorem lst_ob {P : Program} {w : World} (H' : Hp) (h : Heap) (D : Addr) (_ : (D == sysModules) = false) (e : h.get? D = some { cls := .type "list", data := .seq ([] : List Value).toArray }) : ObjOk P w H' h D (.lst []) := ⟨Nat.zero_le _, [], 0, .nil, e⟩
theorem dn_ob {P : Program} {w : World} (H' : Hp) (h : Heap) (D : Addr) (z : (D == sysModules) = false) (e : h.get? D = some { cls := .type "dict", data := .dict #[] }) : ObjOk P w H' h D (dN w D []) :=
  dn_ok ⟨Nat.zero_le _, z, [], .nil, _, #[], 0, e, ⟨rfl, rfl, rfl⟩, rfl, rfl, List.nodup_nil⟩
section
variable {X : Cx} {tg iter : Expr} {ifs : List Expr} {gs : List Comprehension} {scope : Scope} {own : List (Str × Nat)} {pos spos : Pos} {wi : TI} {g : TG} {tt : TT} {rs : List GR}
/-- [elt for .. for ..] -/
theorem pe_lcN {elt : Expr} {te : TE} (hc : X.calm = true) (hN : X.N.Nodup) (hi : PI X tg iter wi) (ok : BlkOk X.N X.env.scope scope own) (hn : Nested (own.map (·.2)) rs)
    (hg : ∀ s0 H0 C cl fp, PG (X.blk s0 H0 scope (compEnvC scope cl C X.env) fp) tg g) (ht : ∀ s0 H0 C cl fp, PTs (X.blk s0 H0 scope (compEnvC scope cl C X.env) fp) ifs tt)
    (hG : ∀ s0 H0 C cl fp, GensOk (X.blk s0 H0 scope (compEnvC scope cl C X.env) fp) gs rs) (he : ∀ s0 H0 C cl fp, PE (X.blk s0 H0 scope (compEnvC scope cl C X.env) fp) elt te)
    (hs : ∀ x, foldedSetIterable iter X.env x = pure x := by intro _; rfl) : PE X (.ListComp elt (⟨tg, iter, ifs, 0⟩ :: gs) scope pos) (tCN (fun _ => .lst []) (emL te) ⟨wi, g, tt, own.map (·.2)⟩ rs) :=
  pe_cL hc hN hi ok rfl hn lst_ob hg ht hG (fun s0 H0 C cl fp D => itemL (X := X.blk s0 H0 scope (compEnvC scope cl C X.env) fp) (he s0 H0 C cl fp) rfl) hs
theorem ps_setLcN {i : Nat} {y : Str} {py : Pos} {elt : Expr} {te : TE} (hc : X.calm = true) (hN : X.N.Nodup) (hy : X.N[i]? = some y) (hyl : X.env.scope.names.lookup y = some .local)
    (hsw : swapsWith (.ListComp elt (⟨tg, iter, ifs, 0⟩ :: gs) scope pos) (some (.Name y py)) spos.line X.env = pure true) (hi : PI X tg iter wi) (ok : BlkOk X.N X.env.scope scope own) (hn : Nested (own.map (·.2)) rs)
    (hg : ∀ s0 H0 C cl fp, PG (X.blk s0 H0 scope (compEnvC scope cl C X.env) fp) tg g) (ht : ∀ s0 H0 C cl fp, PTs (X.blk s0 H0 scope (compEnvC scope cl C X.env) fp) ifs tt)
    (hG : ∀ s0 H0 C cl fp, GensOk (X.blk s0 H0 scope (compEnvC scope cl C X.env) fp) gs rs) (he : ∀ s0 H0 C cl fp, PE (X.blk s0 H0 scope (compEnvC scope cl C X.env) fp) elt te)
    (hs : ∀ x, foldedSetIterable iter X.env x = pure x := by intro _; rfl) : PS X (.Assign [.Name y py] (.ListComp elt (⟨tg, iter, ifs, 0⟩ :: gs) scope pos) spos) (tAsg (tCN (fun _ => .lst []) (emL te) ⟨wi, g, tt, own.map (·.2)⟩ rs) (gName i)) :=
  ps_setCL hc hN hy hyl hsw hi ok rfl hn lst_ob hg ht hG (fun s0 H0 C cl fp D => itemL (X := X.blk s0 H0 scope (compEnvC scope cl C X.env) fp) (he s0 H0 C cl fp) rfl) hs
/-- {k: v for .. for ..}, k nested tuples -/
theorem pe_dcNN {kx vx : Expr} {tk tv : TE} (hu : X.A.units + 64 < cLine) (hc : X.calm = true) (hN : X.N.Nodup) (hi : PI X tg iter wi) (ok : BlkOk X.N X.env.scope scope own) (hn : Nested (own.map (·.2)) rs)
    (hg : ∀ s0 H0 C cl fp, PG (X.blk s0 H0 scope (compEnvC scope cl C X.env) fp) tg g) (ht : ∀ s0 H0 C cl fp, PTs (X.blk s0 H0 scope (compEnvC scope cl C X.env) fp) ifs tt)
    (hG : ∀ s0 H0 C cl fp, GensOk (X.blk s0 H0 scope (compEnvC scope cl C X.env) fp) gs rs) (hk : ∀ s0 H0 C cl fp, PE (X.blk s0 H0 scope (compEnvC scope cl C X.env) fp) kx tk) (hv : ∀ s0 H0 C cl fp, PE (X.blk s0 H0 scope (compEnvC scope cl C X.env) fp) vx tv)
    (hs : ∀ x, foldedSetIterable iter X.env x = pure x := by intro _; rfl) : PE X (.DictComp kx vx (⟨tg, iter, ifs, 0⟩ :: gs) scope pos) (tCN (fun D => dN X.w D []) (emN X.w tk tv) ⟨wi, g, tt, own.map (·.2)⟩ rs) :=
  pe_cD hc hN hi ok rfl hn dn_ob hg ht hG (fun s0 H0 C cl fp D => itemN (X := X.blk s0 H0 scope (compEnvC scope cl C X.env) fp) hu (hk s0 H0 C cl fp) (hv s0 H0 C cl fp) rfl) hs
theorem ps_setDcNN {i : Nat} {y : Str} {py : Pos} {kx vx : Expr} {tk tv : TE} (hu : X.A.units + 64 < cLine) (hc : X.calm = true) (hN : X.N.Nodup) (hy : X.N[i]? = some y) (hyl : X.env.scope.names.lookup y = some .local)
    (hsw : swapsWith (.DictComp kx vx (⟨tg, iter, ifs, 0⟩ :: gs) scope pos) (some (.Name y py)) spos.line X.env = pure true) (hi : PI X tg iter wi) (ok : BlkOk X.N X.env.scope scope own) (hn : Nested (own.map (·.2)) rs)
    (hg : ∀ s0 H0 C cl fp, PG (X.blk s0 H0 scope (compEnvC scope cl C X.env) fp) tg g) (ht : ∀ s0 H0 C cl fp, PTs (X.blk s0 H0 scope (compEnvC scope cl C X.env) fp) ifs tt)
    (hG : ∀ s0 H0 C cl fp, GensOk (X.blk s0 H0 scope (compEnvC scope cl C X.env) fp) gs rs) (hk : ∀ s0 H0 C cl fp, PE (X.blk s0 H0 scope (compEnvC scope cl C X.env) fp) kx tk) (hv : ∀ s0 H0 C cl fp, PE (X.blk s0 H0 scope (compEnvC scope cl C X.env) fp) vx tv)
    (hs : ∀ x, foldedSetIterable iter X.env x = pure x := by intro _; rfl) : PS X (.Assign [.Name y py] (.DictComp kx vx (⟨tg, iter, ifs, 0⟩ :: gs) scope pos) spos) (tAsg (tCN (fun D => dN X.w D []) (emN X.w tk tv) ⟨wi, g, tt, own.map (·.2)⟩ rs) (gName i)) :=
  ps_setCD hc hN hy hyl hsw hi ok rfl hn dn_ob hg ht hG (fun s0 H0 C cl fp D => itemN (X := X.blk s0 H0 scope (compEnvC scope cl C X.env) fp) hu (hk s0 H0 C cl fp) (hv s0 H0 C cl fp) rfl) hs
end
section
variable {σ : L2.St} {H : Hp} {J : It} {n : Nat} {G : Hp → Prop} {Y : Nat → Hp → V → Hp → Prop} {r : GR} {rs : List GR} {em : TItem} {Qd : Hp → Prop}
/-- a loop of a comprehension by a walk -/
theorem cn_it {H0 : Hp} {g : TG} {tt : TT} {vs : List Nat} (wk : Walk J n G Y) (Pv : Nat → Hp → Prop) (h0 : Pv 0 H0) (hG : ∀ i Ha, i ≤ n → Pv i Ha → G Ha)
    (hs : ∀ i x Ha Hb, i < n → Pv i Ha → Y i Ha x Hb → g x (wipe σ vs) Hb fun σ2 Hc => wipe σ2 vs = wipe σ vs ∧ tt σ2 Hc fun b Hd => if b = true then tIn em rs σ2 Hd (Pv (i + 1)) else Pv (i + 1) Hd) (hd : ∀ Ha, Pv n Ha → Qd Ha) :
    ∃ W : Nat → Nat → Hp → Prop, (∃ m, W 0 m H0) ∧ ∀ i m Ha, W i m Ha → (J.stop i Ha ∧ Qd Ha) ∨ (J.go i Ha ∧ ∃ N : Hp → Prop, (∀ Hb, N Hb → ∃ m1, m1 < m ∧ W (i + 1) m1 Hb) ∧ ∀ x Hb, J.yld i Ha x Hb → g x (wipe σ vs) Hb fun σ2 Hc => wipe σ2 vs = wipe σ vs ∧ tt σ2 Hc fun b Hd => if b = true then tIn em rs σ2 Hd N else N Hd) := by
  refine ⟨fun i m Ha => m + i = n ∧ Pv i Ha, ⟨n, by omega, h0⟩, ?_⟩
  rintro i m Ha ⟨e, p⟩
  have q := hG i Ha (by omega) p
  by_cases lt : i < n
  · exact .inr ⟨wk.goes i Ha lt q, Pv (i + 1), fun Hb p1 => ⟨m - 1, by omega, by omega, p1⟩, fun x Hb y => hs i x Ha Hb lt p (wk.yields i Ha x Hb lt q y)⟩
  · obtain rfl : i = n := by omega
    exact .inl ⟨wk.stops Ha q, hd Ha p⟩
end
section
variable {K : PySem.W.Frag} {w : World} {σ : L2.St} {H : Hp} {Q : VK} {a : Addr} {xs : List V} {tl : TE} {g : TG} {tt : TT} {vs : List Nat} {rs : List GR} {em : TItem} {o0 : Addr → HO} {emD : Addr → TItem} {Nx : Hp → Prop}
/-- a further «for» over a list -/
theorem tin_l (Pv : Nat → Hp → Prop) (hv : ∀ R : VK, R (.ref a) H → tl σ H R) (hx : SqL K H a xs) (h0 : Pv 0 H) (hG : ∀ i Ha, i ≤ xs.length → Pv i Ha → SqL K Ha a xs)
    (hs : ∀ i x Ha, xs[i]? = some x → Pv i Ha → g x (wipe σ vs) Ha fun σ2 Hc => wipe σ2 vs = wipe σ vs ∧ tt σ2 Hc fun b Hd => if b = true then tIn em rs σ2 Hd (Pv (i + 1)) else Pv (i + 1) Hd) (hd : ∀ Ha, Pv xs.length Ha → Nx Ha) : tIn em (⟨iList K tl, g, tt, vs⟩ :: rs) σ H Nx :=
  hv _ ⟨a, rfl, ⟨xs, hx⟩, cn_it (walk_list (K := K) (a := a) (xs := xs)) Pv h0 hG (fun i x Ha Hb _ p y => by
    obtain ⟨rfl, y⟩ := y
    exact hs i x _ y p) hd⟩
/-- .. over enumerate(a list) -/
theorem tin_e {ta : TA} (Pv : Nat → Hp → Prop) (hv : ∀ R : List V → Hp → Prop, R [.ref a] H → ta σ H R) (hx : SqL K H a xs) (h0 : Pv 0 H) (hG : ∀ i Ha, i ≤ xs.length → Pv i Ha → SqL K Ha a xs)
    (hs : ∀ i x Ha T, xs[i]? = some x → Pv i Ha → Ha T = none → g (.ref T) (wipe σ vs) (upd Ha T (.tup [.int (i : Int), x])) fun σ2 Hc => wipe σ2 vs = wipe σ vs ∧ tt σ2 Hc fun b Hd => if b = true then tIn em rs σ2 Hd (Pv (i + 1)) else Pv (i + 1) Hd) (hd : ∀ Ha, Pv xs.length Ha → Nx Ha) : tIn em (⟨iEnum K ta, g, tt, vs⟩ :: rs) σ H Nx :=
  hv _ ⟨a, xs, rfl, hx, cn_it (walk_enum (K := K) (a := a) (xs := xs)) Pv h0 hG (fun i x Ha Hb _ p y => by
    obtain ⟨T, u, v, rfl, h2, rfl, h4, h5⟩ := y
    cases h4
    exact hs i v Ha T h5 p h2) hd⟩
/-- the first «for» over a list -/
theorem tcn_l (Pv : Addr → Nat → Hp → Prop) (hv : ∀ R : VK, R (.ref a) H → tl σ H R) (hx : SqL K H a xs) (h0 : ∀ D, H D = none → Pv D 0 (upd H D (o0 D))) (hG : ∀ D i Ha, i ≤ xs.length → Pv D i Ha → SqL K Ha a xs)
    (hs : ∀ D i x Ha, xs[i]? = some x → Pv D i Ha → g x (wipe σ vs) Ha fun σ2 Hc => wipe σ2 vs = wipe σ vs ∧ tt σ2 Hc fun b Hd => if b = true then tIn (emD D) rs σ2 Hd (Pv D (i + 1)) else Pv D (i + 1) Hd) (hd : ∀ D Ha, Pv D xs.length Ha → Q (.ref D) Ha) : tCN o0 emD ⟨iList K tl, g, tt, vs⟩ rs σ H Q :=
  hv _ ⟨a, rfl, ⟨xs, hx⟩, fun D hD => cn_it (walk_list (K := K) (a := a) (xs := xs)) (Pv D) (h0 D hD) (hG D) (fun i x Ha Hb _ p y => by
    obtain ⟨rfl, y⟩ := y
    exact hs D i x _ y p) (hd D)⟩
theorem tcn_t (Pv : Addr → Nat → Hp → Prop) (hv : ∀ R : VK, R (.ref a) H → tl σ H R) (hx : SqT K H a xs) (h0 : ∀ D, H D = none → Pv D 0 (upd H D (o0 D))) (hG : ∀ D i Ha, i ≤ xs.length → Pv D i Ha → SqT K Ha a xs)
    (hs : ∀ D i x Ha, xs[i]? = some x → Pv D i Ha → g x (wipe σ vs) Ha fun σ2 Hc => wipe σ2 vs = wipe σ vs ∧ tt σ2 Hc fun b Hd => if b = true then tIn (emD D) rs σ2 Hd (Pv D (i + 1)) else Pv D (i + 1) Hd) (hd : ∀ D Ha, Pv D xs.length Ha → Q (.ref D) Ha) : tCN o0 emD ⟨iTup K tl, g, tt, vs⟩ rs σ H Q :=
  hv _ ⟨a, rfl, ⟨xs, hx⟩, fun D hD => cn_it (walk_tup (K := K) (a := a) (xs := xs)) (Pv D) (h0 D hD) (hG D) (fun i x Ha Hb _ p y => by
    obtain ⟨rfl, y⟩ := y
    exact hs D i x _ y p) (hd D)⟩
end
/-- a walk over such a dict's keys -/
theorem walk_keysN {w : World} {d : Addr} {o : Obj} {kvs : List NE} : Walk (ItkN w d o kvs) kvs.length (fun H => H d = some (.frz o (dN w d kvs))) (fun i Ha x Hb => Hb = Ha ∧ ∃ (k : NK) (b : Addr) (v : V), kvs[i]? = some (k, b, v) ∧ x = .ref b) where
  goes := fun i H lt h => ⟨h, lt⟩
  stops := fun H h => ⟨h, Nat.le_refl _⟩
  yields := fun i H x H' _ _ y => y
section
variable {K : PySem.W.Frag} {w : World} {σ : L2.St} {H : Hp} {Q : VK} {d a : Addr} {o : Obj} {kvs : List NE} {xs : List V} {td : TE} {g : TG} {tt : TT} {tb : TS} {D : Ends} {vs : List Nat} {rs : List GR} {em : TItem} {o0 : Addr → HO} {emD : Addr → TItem} {Nx : Hp → Prop}
/-- the first «for» over the keys of a locked dict -/
theorem tcn_k (Pv : Addr → Nat → Hp → Prop) (hv : ∀ R : VK, R (.ref d) H → td σ H R) (hx : H d = some (.frz o (dN w d kvs))) (h0 : ∀ D, H D = none → Pv D 0 (upd H D (o0 D))) (hG : ∀ D i Ha, i ≤ kvs.length → Pv D i Ha → Ha d = some (.frz o (dN w d kvs)))
    (hs : ∀ D i k b v Ha, kvs[i]? = some (k, b, v) → Pv D i Ha → g (.ref b) (wipe σ vs) Ha fun σ2 Hc => wipe σ2 vs = wipe σ vs ∧ tt σ2 Hc fun b Hd => if b = true then tIn (emD D) rs σ2 Hd (Pv D (i + 1)) else Pv D (i + 1) Hd) (hd : ∀ D Ha, Pv D kvs.length Ha → Q (.ref D) Ha) : tCN o0 emD ⟨iKeysN w td, g, tt, vs⟩ rs σ H Q :=
  hv _ ⟨d, o, kvs, rfl, hx, fun D hD => cn_it walk_keysN (Pv D) (h0 D hD) (hG D) (fun i x Ha Hb _ p y => by
    obtain ⟨rfl, k, b, v, hk, rfl⟩ := y
    exact hs D i k b v _ hk p) (hd D)⟩
/-- for over the keys of a locked dict -/
theorem fk_go (Pv : Nat → L2.St → Hp → Prop) (hv : ∀ R : VK, R (.ref d) H → td σ H R) (hx : H d = some (.frz o (dN w d kvs))) (h0 : Pv 0 σ H) (hG : ∀ i σ' Ha, i ≤ kvs.length → Pv i σ' Ha → Ha d = some (.frz o (dN w d kvs)))
    (hs : ∀ i k b v σ' Ha, kvs[i]? = some (k, b, v) → Pv i σ' Ha → g (.ref b) σ' Ha fun σ2 Hc => tb { D with nx := Pv (i + 1), ct := Pv (i + 1), bk := D.nx } σ2 Hc) (hd : ∀ σ' Ha, Pv kvs.length σ' Ha → D.nx σ' Ha) : tFor (iKeysN w td) g tb D σ H :=
  hv _ ⟨d, o, kvs, rfl, hx, for_it walk_keysN Pv h0 hG (fun i x σ' Ha Hb _ p y => by
    obtain ⟨rfl, k, b, v, hk, rfl⟩ := y
    exact hs i k b v σ' _ hk p) hd⟩
/-- for over enumerate(a list) -/
theorem fe_go {ta : TA} (Pv : Nat → L2.St → Hp → Prop) (hv : ∀ R : List V → Hp → Prop, R [.ref a] H → ta σ H R) (hx : SqL K H a xs) (h0 : Pv 0 σ H) (hG : ∀ i σ' Ha, i ≤ xs.length → Pv i σ' Ha → SqL K Ha a xs)
    (hs : ∀ i x σ' Ha T, xs[i]? = some x → Pv i σ' Ha → Ha T = none → g (.ref T) σ' (upd Ha T (.tup [.int (i : Int), x])) fun σ2 Hc => tb { D with nx := Pv (i + 1), ct := Pv (i + 1), bk := D.nx } σ2 Hc) (hd : ∀ σ' Ha, Pv xs.length σ' Ha → D.nx σ' Ha) : tFor (iEnum K ta) g tb D σ H :=
  hv _ ⟨a, xs, rfl, hx, for_it (walk_enum (K := K) (a := a) (xs := xs)) Pv h0 hG (fun i x σ' Ha Hb _ p y => by
    obtain ⟨T, u, v, rfl, h2, rfl, h4, h5⟩ := y
    cases h4
    exact hs i v σ' Ha T h5 p h2) hd⟩
theorem lock_go {t : TS} {u : HO} (hd : H d = some u) (mu : Mut (some u)) (q : ∀ od, t ⟨fun σ' H' => H' d = some (.frz od u) ∧ D.nx σ' (upd H' d u), fun v H' => H' d = some (.frz od u) ∧ D.rt v (upd H' d u), fun σ' H' => H' d = some (.frz od u) ∧ D.bk σ' (upd H' d u), fun σ' H' => H' d = some (.frz od u) ∧ D.ct σ' (upd H' d u)⟩ σ (upd H d (.frz od u))) : tLock t D σ H := ⟨d, u, hd, mu, q⟩
theorem lockE_go {t : TE} {u : HO} (hd : H d = some u) (mu : Mut (some u)) (q : ∀ od, t σ (upd H d (.frz od u)) fun v H' => H' d = some (.frz od u) ∧ Q v (upd H' d u)) : tLockE t σ H Q := ⟨d, u, hd, mu, q⟩
end
section
variable {Y : Cx} {K : PySem.W.Frag} {w : World} {tg iter : Expr} {ifs : List Expr} {gs : List Comprehension} {rs : List GR} {wi : TI} {g : TG} {tt : TT}
theorem gok_cons (vs : List Nat) (hi : PI Y tg iter wi) (hg : PG Y tg g) (ht : PTs Y ifs tt) (t : GensOk Y gs rs) (hs : ∀ x, foldedSetIterable iter Y.env x = pure x := by intro _; rfl) : GensOk Y (⟨tg, iter, ifs, 0⟩ :: gs) (⟨wi, g, tt, vs⟩ :: rs) :=
  GensOk.cons (r := ⟨wi, g, tt, vs⟩) hi hg ht hs t
theorem pi_listK' {tl : TE} (h : PE Y iter tl) (e : Y.K = K := by rfl) : PI Y tg iter (iList K tl) := by
  subst e
  exact pi_list h
theorem pi_tupK {tl : TE} (h : PE Y iter tl) (e : Y.K = K := by rfl) : PI Y tg iter (iTup K tl) := by
  subst e
  exact pi_tup h
theorem pi_keysNK {td : TE} (h : PE Y iter td) (e : Y.w = w := by rfl) : PI Y tg iter (iKeysN w td) := by
  subst e
  exact pi_keysN h
theorem pi_enumK {e : Expr} {ta : TA} {p pos tpos : Pos} {elts : List Expr} {kk : Nat} (hg : Gl Y "enumerate") (hm : Y.mg "enumerate" = none) (ha : PA Y [e] ta) (z : Y.K = K := by rfl) (hs : starEach [e] Y.env = [(false, eval e Y.env)] := by rfl) : PI Y (.Tuple elts kk tpos) (.Call (.Name "enumerate" p) [e] [] pos) (iEnum K ta) := by
  subst z
  exact pi_enum hg hm ha hs
theorem pe_ngetK' {o i : Expr} {td ty : TE} {pos : Pos} (hu : Y.A.units + 64 < cLine) (ho : PE Y o td) (hi : PE Y i ty) (hs : NoSl i) (h : Y.w = w := by rfl) : PE Y (.Subscript o i pos) (tNGet w td ty) := by
  subst h
  exact pe_nget hu ho hi hs
end
section
variable {K : PySem.W.Frag} {σ : L2.St} {H : Hp} {Q : VK} {te : TE}
theorem r_popL {i : Nat} {l : Addr} {xs : List V} {y : V} (h0 : σ[i]? = some (some (.ref l))) (h : H l = some (.lst (xs ++ [y]))) (q : Q y (upd H l (.lst xs))) : tBM0 K "list" rPop (tVar i) σ H Q :=
  ⟨_, h0, .inl ⟨rfl, _, SqL.of h⟩, l, xs ++ [y], y, rfl, rfl, h, by simp, by rw [List.dropLast_concat]; exact q⟩
theorem r_extL {i : Nat} {l : Addr} {xs : List V} (h0 : σ[i]? = some (some (.ref l))) (h : H l = some (.lst xs)) (q : te σ H fun y H2 => rExtend (.ref l) [y] H2 Q) : tBM K "list" rExtend (tVar i) (tCons te tNil) σ H Q :=
  ⟨_, h0, .inl ⟨rfl, _, SqL.of h⟩, q⟩
theorem ext_l {l b : Addr} {xs zs : List V} (h : H l = some (.lst xs)) (hb : H b = some (.lst zs)) (z : xs.length + zs.length ≤ 100000) (q : Q .non (upd H l (.lst (xs ++ zs)))) : rExtend (.ref l) [.ref b] H Q :=
  ⟨l, b, xs, zs, rfl, rfl, h, hb, Nat.le_trans z (by decide), q⟩
end
end AE

set_option Elab.async false
set_option linter.all false
set_option maxRecDepth 100000
/-! tuple + tuple of any length, as keys -/
namespace AE
open PySem PySem.Spec PyProof.Rows L2 Evl
section
variable {X : Cx} {K : PySem.W.Frag} {H : Hp} {Q : VK}
theorem op_catAK (h : X.K = K := by rfl) : OpR X (binaryOp .Add) (rCatA K) := by subst h; exact op_catA
theorem cat_go {a b : Addr} {ks ls : List NK} (ha : NAt H (.ref a) (.tup ks)) (hb : NAt H (.ref b) (.tup ls)) (hl : ks.length + ls.length ≤ 100000) (q : ∀ v H', Ex H H' → NAt H' v (.tup (ks ++ ls)) → Q v H') : rCatA K (.ref a) (.ref b) H Q := by
  obtain ⟨a', xs, e1, h1, n1⟩ := id ha.tupOf
  obtain ⟨b', ys, e2, h2, n2⟩ := id hb.tupOf
  cases e1
  cases e2
  have s : (100000 : Nat) ≤ sizeLine := by decide
  refine ⟨a, b, xs, ys, rfl, rfl, .inl (.inl h1), .inl (.inl h2), by rw [n1.len, n2.len]; omega, fun z => ?_, fun z y => ?_, fun z y p hp => ?_⟩
  · rw [z] at n1
    have : ks = [] := List.length_eq_zero_iff.mp n1.len.symm
    rw [this] at q
    exact q _ H (Ex.refl _) hb
  · rw [y] at n2
    have : ls = [] := List.length_eq_zero_iff.mp n2.len.symm
    rw [this, List.append_nil] at q
    exact q _ H (Ex.refl _) ha
  · have e : Ex H (upd H p (.tup (xs ++ ys))) := Ex.new hp
    exact q _ _ e (.tup upd_same ((n1.tx (ex_txn e)).app (n2.tx (ex_txn e))))
end
end AE

set_option Elab.async false
set_option linter.all false
set_option maxRecDepth 100000
set_option maxHeartbeats 2000000
namespace K12
open PySem PySem.Spec PyProof.Rows L2 Evl AE
local macro_rules | `(tactic| walk_at "c") => `(tactic| first | exact ⟨by decide, by decide⟩ | exact .inr ⟨by decide, by decide⟩ | exact .inl ⟨by decide, by decide⟩ | exact ⟨by decide, by decide, by decide⟩ | (show (0 : Int) < _; decide))
local macro_rules | `(tactic| walk_at "s") => `(tactic| first
  | (with_reducible refine r_var rfl ?_) | (with_reducible refine r_c ?_) | (with_reducible refine r_op ?_) | (with_reducible refine r_un ?_) | (with_reducible refine r_I0 ?_) | (with_reducible refine r_U ?_)
  | (with_reducible refine r_eq rfl ?_) | (with_reducible refine r_ne rfl ?_) | (with_reducible refine r_chain ?_) | (with_reducible refine r_test ?_) | (with_reducible refine r_tB ?_)
  | (with_reducible refine r_bl ?_) | (with_reducible refine r_and ?_) | (with_reducible refine r_or ?_) | (with_reducible refine r_not ?_) | (with_reducible refine r_nil ?_) | (with_reducible refine r_cons ?_)
  | (with_reducible refine r_tupK ?_) | (with_reducible refine r_lstK ?_) | (with_reducible refine r_cb ?_) | (with_reducible refine r_revL ?_) | (with_reducible refine r_ost ?_) | (with_reducible refine r_mkO ?_) | (with_reducible refine r_makeK ?_) | (with_reducible refine r_make ?_) | (with_reducible refine r_setdN ?_) | (with_reducible refine r_nget2 ?_) | (with_reducible refine r_nnew ?_) | (with_reducible refine r_call ?_) | (with_reducible refine r_seq ?_) | (with_reducible refine r_set ?_)
  | (with_reducible refine r_drop ?_) | (with_reducible refine r_ret ?_) | (with_reducible refine r_next ?_) | (with_reducible refine r_if ?_) | (with_reducible refine r_sl ?_) | (with_reducible refine r_nop ?_) | (with_reducible refine r_prt ?_) | (with_reducible refine r_some ?_)
  | (with_reducible refine add_int ?_) | (with_reducible refine int_i ?_) | (with_reducible refine r_forR1 ?_) | (with_reducible refine r_forR2 ?_) | (with_reducible refine r_meth ?_) | (with_reducible refine r_makeS ?_) | (with_reducible refine r_opS ?_) | (with_reducible refine r_makeRS ?_) | (with_reducible refine r_methH ?_) | (with_reducible refine r_callS ?_) | (with_reducible refine r_forL ?_) | (with_reducible refine r_andV ?_) | (with_reducible refine r_orV ?_) | (with_reducible refine r_notV ?_) | (with_reducible refine r_ifE ?_) | (with_reducible refine r_lcL ?_) | (with_reducible refine r_fld ?_) | (with_reducible refine r_get ?_) | (with_reducible refine r_din ?_) | (with_reducible refine r_dget2 ?_) | ((with_reducible refine r_I ?_ ?_); (walk_at "c")))
local macro_rules | `(tactic| walk_at "g") => `(tactic| repeat walk_at "s")
section
variable {P : Program} {w : World} {K : PySem.W.Frag} {mg : Str → Option Value} {base : Heap}
theorem marksF_idem (n : Int) (ms : List Int) : marksF n (marksF n ms) = marksF n ms := by
  unfold marksF
  refine List.filter_congr fun k hk => ?_
  exact decide_eq_decide.mpr (by rw [List.mem_filter, decide_eq_true_iff]; exact ⟨And.right, fun z => ⟨hk, z⟩⟩)
structure ValidM (m : Mach) : Prop where
  n1 : 1 ≤ m.size
  n2 : m.size ≤ 200
  mo : ∀ k ∈ m.marks, 0 ≤ k ∧ k < m.size
  ml : m.marks.length ≤ 1000
  mf : marksF m.size m.marks = m.marks
  up : m.rows.Pairwise ltS
  ok : ∀ s ∈ m.rows, OkS m.size s
  rl : m.rows.length ≤ 600
  w0 : 0 ≤ m.now
  w1 : m.now < m.size
theorem MachAt.chl {H H' : Hp} {D y C : Addr} {l : List V} {m : Mach} (hD : H D = some (.lst l)) (c : Ch D H H') (h : MachAt H y C m) : MachAt H' y C m := by
  obtain ⟨dy, pm, ps, de, dp, us, h1, h2, h3, h4, ⟨kvs, h5, g5⟩, ⟨kvp, G, h6, g6, p6⟩⟩ := h
  have nd : ∀ (b : Addr) (o : HO), H b = some o → (∀ xs, o ≠ .lst xs) → H' b = some o := fun b o hb ho => c _ _ (fun z => by subst z; rw [hD] at hb; cases hb; exact ho l rfl) hb
  exact ⟨dy, pm, ps, de, dp, us, nd _ _ h1 (by intro _ z; cases z), ch_l hD c h2, ch_l hD c h3, h4.tx (tx_ch hD c), ⟨kvs, nd _ _ h5 (by intro _ z; cases z), g5.tx (tx_ch hD c)⟩, ⟨kvp, G, nd _ _ h6 (by intro _ z; cases z), g6.tx (tx_ch hD c), fun k => (p6 k).tx (tx_ch hD c)⟩⟩
theorem MachAt.ch {H H' : Hp} {x C dx y D : Addr} {fs : List (Str × V)} {m : Mach} (hx : H x = some (.ins C dx fs)) (ne : y ≠ x) (c : Ch x H H') (h : MachAt H y D m) : MachAt H' y D m := by
  obtain ⟨dy, pm, ps, de, dp, us, h1, h2, h3, h4, h5, h6⟩ := h
  exact ⟨dy, pm, ps, de, dp, us, c _ _ ne h1, c _ _ (fun z => by subst z; rw [hx] at h2; cases h2) h2, c _ _ (fun z => by subst z; rw [hx] at h3; cases h3) h3, h4.tx (tx_ins hx c), h5.ch hx c, h6.ch hx c⟩
theorem none_ex {H H' : Hp} {y : Addr} (e : Ex H H') (h : H' y = none) : H y = none := by
  cases z : H y with
  | none => rfl
  | some o => rw [e _ _ z] at h; cases h
theorem gname1 {i : Nat} {x : V} {σ : L2.St} {H : Hp} {Q : L2.St → Hp → Prop} (q : Q (σ.set i (some x)) H) : gName i x σ H Q := q
structure PlainD where
  n : Int
  now : Int
  ms : List Int
  ss : List StepD
structure OkP (p : PlainD) : Prop where
  n1 : 1 ≤ p.n
  n4 : p.n ≤ 4
  mo : ∀ k ∈ p.ms, 0 ≤ k ∧ k < p.n
  ml : p.ms.length ≤ 4
  mf : marksF p.n p.ms = p.ms
  so : ∀ s ∈ p.ss, OkS p.n s
  sl : p.ss.length ≤ 600
  up : p.ss.Pairwise ltS
  w0 : 0 ≤ p.now
  w1 : p.now < p.n
def machP (p : PlainD) : Mach := ⟨p.n, p.ms, p.ss, p.now⟩
theorem OkP.valid {p : PlainD} (h : OkP p) : ValidM (machP p) := ⟨h.n1, by have := h.n4; show p.n ≤ 200; omega, h.mo, by have := h.ml; show p.ms.length ≤ 1000; omega, h.mf, h.up, h.so, h.sl, h.w0, h.w1⟩
theorem made_plain {p : PlainD} {m : Mach} (h : OkP p) (md : Made p.n p.ms p.ss p.now m) : m = machP p := by
  have h1 := md.size
  have h2 := md.marks
  have h3 : m.rows = p.ss := rows_eq md.up h.up md.mem
  have h4 := md.now
  rw [h.mf] at h2
  cases m
  unfold machP
  simp only at *
  subst h1 h2 h3 h4
  rfl
def PlainAt (H : Hp) (b : Addr) (p : PlainD) (am as_ : Addr) (us : List V) : Prop := H b = some (.tup [.int p.n, .ref am, .ref as_, .int p.now]) ∧ H am = some (.lst (p.ms.map V.int)) ∧ H as_ = some (.lst us) ∧ Tups H us (p.ss.map stepV)
theorem PlainAt.ex {H H' : Hp} {b am as_ : Addr} {p : PlainD} {us : List V} (e : Ex H H') (h : PlainAt H b p am as_ us) : PlainAt H' b p am as_ us := ⟨e _ _ h.1, e _ _ h.2.1, e _ _ h.2.2.1, h.2.2.2.tx (tx_ex e)⟩
theorem PlainAt.chl {H H' : Hp} {b am as_ D : Addr} {p : PlainD} {us l : List V} (hD : H D = some (.lst l)) (c : Ch D H H') (n1 : am ≠ D) (n2 : as_ ≠ D) (h : PlainAt H b p am as_ us) : PlainAt H' b p am as_ us :=
  ⟨ch_l hD c h.1, c _ _ n1 h.2.1, c _ _ n2 h.2.2.1, h.2.2.2.tx (tx_ch hD c)⟩
theorem PlainAt.chx {H H' : Hp} {b am as_ x C dx : Addr} {p : PlainD} {us : List V} {fs : List (Str × V)} (hx : H x = some (.ins C dx fs)) (c : Ch x H H') (h : PlainAt H b p am as_ us) : PlainAt H' b p am as_ us :=
  ⟨c _ _ (fun z => by subst z; have := h.1; rw [hx] at this; cases this) h.1, c _ _ (fun z => by subst z; have := h.2.1; rw [hx] at this; cases this) h.2.1, c _ _ (fun z => by subst z; have := h.2.2.1; rw [hx] at this; cases this) h.2.2.1, h.2.2.2.tx (tx_ins hx c)⟩
abbrev PairL := Str × Int
theorem r_tru {σ : L2.St} {H : Hp} {i : Nat} {x : V} {k : Bool} {Q : Bool → Hp → Prop} (v : σ[i]? = some (some x)) (t : TruV K x H k) (q : Q k H) : (fun (σ : L2.St) (H : Hp) (Q : Bool → Hp → Prop) => tVar i σ H fun x H' => ∃ k, TruV K x H' k ∧ Q k H') σ H Q := ⟨x, v, k, t, q⟩
def sp_pairsAt (K : PySem.W.Frag) : Sp := fun vs H Q _ => ∃ (x C : Addr) (m : Mach) (st : Int), vs = [.ref x, .int st] ∧ MCls K C ∧ MachAt H x C m ∧
  ∀ p us H', Ex H H' → H' p = some (.tup us) → Tups H' us ((pairsF m.rows (.inl st)).map pairD) → Q (.ref p) H'
theorem ok_pairsAt (T : Tp K mg) : FnOk P w K mg base CX0 1 T.a_Machine_pairs_at T.d_Machine_pairs_at ["self", "state"] (sp_pairsAt K) := by
  refine T.f_Machine_pairs_at.ok sc_Machine_pairs_at (fun vs H Q E h => ?_) (fun cdv A outer s H vs Q E hr h => ?_)
  · obtain ⟨x, C, m, st, rfl, _⟩ := h
    rfl
  · obtain ⟨x, C, m, st, rfl, mc, hm, q⟩ := h
    have hu := hu_of hr
    refine ⟨_, (pss_one (ps_ret (pe_dget2 hu (pe_fld (pv 0) rfl) (pv 1) (pe_tup pa_nil) ⟨rfl, rfl, rfl, rfl⟩))), ?_⟩
    obtain ⟨dx, pm, ps, de, dp, us, h1, h2, h3, h4, h5, ⟨kvs, G, h6, g, tt⟩⟩ := hm
    walk_at "g"
    refine gtf_go h1 mc.cl mc.n6 (v := .ref dp) rfl ?_
    refine ⟨dp, rfl, .inl ⟨kvs, .inl h6⟩, ?_⟩
    walk_at "g"
    refine tup_go' fun ep H1 nep e1 hep => ?_
    refine ⟨_, DGet.k (k := .inl st) (e1 _ _ h6), ?_⟩
    by_cases z : G (.inl st) = []
    · rw [(g _).1 z]
      refine q ep [] H1 e1 hep ?_
      have tz := tt (.inl st)
      rw [z] at tz
      exact tz.tx (tx_ex e1)
    · obtain ⟨p, a1, a2⟩ := (g _).2 z
      rw [a1]
      exact q p _ H1 e1 (e1 _ _ a2) ((tt _).tx (tx_ex e1))
def pairsL (rows : List StepD) (st : Int) : List PairL := (pairsF rows (.inl st)).map fun s => s.2
def pN (p : PairL) : NK := .tup [.str p.1, .int p.2]
theorem pairs_nats {H : Hp} : ∀ {us : List V} {l : List StepD}, Tups H us (l.map pairD) → NAts H us ((l.map fun s => s.2).map pN)
  | _, [], .nil => .nil
  | _, s :: l, .cons h t => .cons (by
    obtain ⟨a, rfl, h⟩ := h
    exact .tup h (.cons (.str _) (.cons (.int _) .nil))) (pairs_nats t)
theorem gtup3 {K : PySem.W.Frag} {σ : L2.St} {H : Hp} {t : TGs} {T : Addr} {x y z : V} {Q : L2.St → Hp → Prop} (h : SqT K H T [x, y, z]) (q : t [x, y, z] σ H Q) : gTup K 3 t (.ref T) σ H Q := ⟨T, _, rfl, h, rfl, q⟩
theorem gnames3 {σ : L2.St} {H : Hp} {i j k : Nat} {x y z : V} {Q : L2.St → Hp → Prop} (q : Q (((σ.set i (some x)).set j (some y)).set k (some z)) H) : gCons (gName i) (gCons (gName j) (gCons (gName k) gNil)) [x, y, z] σ H Q := ⟨x, [y, z], rfl, y, [z], rfl, z, [], rfl, rfl, q⟩
theorem r_nnotin {w : World} {td ty : TE} {σ : L2.St} {H : Hp} {Q : VK} (q : ty σ H fun y H1 => td σ H1 fun x H2 => ∃ a o, x = .ref a ∧ NGet w H2 a y o ∧ Q (.bl (!o.isSome)) H2) : tNNotIn w ty td σ H Q := q
theorem r_nget {w : World} {td ty : TE} {σ : L2.St} {H : Hp} {Q : VK} (q : td σ H fun x H1 => ty σ H1 fun y H2 => ∃ a v, x = .ref a ∧ NGet w H2 a y (some v) ∧ Q v H2) : tNGet w td ty σ H Q := q
theorem join_any {t : TS} {D : Ends} {σ : L2.St} {H : Hp} (R : L2.St → Hp → Prop) (body : ∀ D' : Ends, (∀ σ' H', R σ' H' → D'.nx σ' H') → t D' σ H) (tail : ∀ σ' H', R σ' H' → D.nx σ' H') : t D σ H := body D tail
theorem pN_inj {a b : PairL} (h : pN a = pN b) : a = b := by
  obtain ⟨a1, a2⟩ := a
  obtain ⟨b1, b2⟩ := b
  unfold pN at h
  simp only [NK.tup.injEq, List.cons.injEq, NK.int.injEq, NK.str.injEq] at h
  obtain ⟨h1, h2, _⟩ := h
  subst h1 h2
  rfl
end

end K12

set_option Elab.async false
set_option linter.all false
set_option maxRecDepth 100000
set_option maxHeartbeats 2000000
namespace K12
open PySem PySem.Spec PyProof.Rows L2 Evl AE
local macro_rules | `(tactic| walk_at "c") => `(tactic| first | exact ⟨by decide, by decide⟩ | exact .inr ⟨by decide, by decide⟩ | exact .inl ⟨by decide, by decide⟩ | exact ⟨by decide, by decide, by decide⟩ | (show (0 : Int) < _; decide))
local macro_rules | `(tactic| walk_at "s") => `(tactic| first
  | (with_reducible refine r_var rfl ?_) | (with_reducible refine r_c ?_) | (with_reducible refine r_op ?_) | (with_reducible refine r_un ?_) | (with_reducible refine r_I0 ?_) | (with_reducible refine r_U ?_)
  | (with_reducible refine r_eq rfl ?_) | (with_reducible refine r_ne rfl ?_) | (with_reducible refine r_chain ?_) | (with_reducible refine r_test ?_) | (with_reducible refine r_tB ?_)
  | (with_reducible refine r_bl ?_) | (with_reducible refine r_and ?_) | (with_reducible refine r_or ?_) | (with_reducible refine r_not ?_) | (with_reducible refine r_nil ?_) | (with_reducible refine r_cons ?_)
  | (with_reducible refine r_tupK ?_) | (with_reducible refine r_lstK ?_) | (with_reducible refine r_cb ?_) | (with_reducible refine r_revL ?_) | (with_reducible refine r_ost ?_) | (with_reducible refine r_mkO ?_) | (with_reducible refine r_makeK ?_) | (with_reducible refine r_make ?_) | (with_reducible refine r_setdN ?_) | (with_reducible refine r_nget2 ?_) | (with_reducible refine r_nnew ?_) | (with_reducible refine r_call ?_) | (with_reducible refine r_seq ?_) | (with_reducible refine r_set ?_)
  | (with_reducible refine r_drop ?_) | (with_reducible refine r_ret ?_) | (with_reducible refine r_next ?_) | (with_reducible refine r_if ?_) | (with_reducible refine r_sl ?_) | (with_reducible refine r_nop ?_) | (with_reducible refine r_prt ?_) | (with_reducible refine r_some ?_)
  | (with_reducible refine add_int ?_) | (with_reducible refine int_i ?_) | (with_reducible refine r_forR1 ?_) | (with_reducible refine r_forR2 ?_) | (with_reducible refine r_meth ?_) | (with_reducible refine r_makeS ?_) | (with_reducible refine r_opS ?_) | (with_reducible refine r_makeRS ?_) | (with_reducible refine r_methH ?_) | (with_reducible refine r_callS ?_) | (with_reducible refine r_forL ?_) | (with_reducible refine r_andV ?_) | (with_reducible refine r_orV ?_) | (with_reducible refine r_notV ?_) | (with_reducible refine r_ifE ?_) | (with_reducible refine r_lcL ?_) | (with_reducible refine r_fld ?_) | (with_reducible refine r_get ?_) | (with_reducible refine r_din ?_) | (with_reducible refine r_dget2 ?_) | ((with_reducible refine r_I ?_ ?_); (walk_at "c")))
local macro_rules | `(tactic| walk_at "g") => `(tactic| repeat walk_at "s")
section
variable {P : Program} {w : World} {K : PySem.W.Frag} {mg : Str → Option Value} {base : Heap}
/-! ### tasks: lists of lists of lists of places -/
structure KeepL (G H H' : Hp) : Prop where
  l : ∀ L us, G L = none → H L = some (.lst us) → H' L = some (.lst us)
  t : TxN H H'
theorem KeepL.ex {G H H' : Hp} (e : Ex H H') : KeepL G H H' := ⟨fun L us _ h => e _ _ h, ex_txn e⟩
theorem KeepL.trans {G H H1 H2 : Hp} (a : KeepL G H H1) (b : KeepL G H1 H2) : KeepL G H H2 := ⟨fun L us n h => b.l L us n (a.l L us n h), fun c xs h => b.t c xs (a.t c xs h)⟩
/-- a change at one place that is no tuple, and no list but one of G's -/
theorem KeepL.at_ {G H : Hp} {d : Addr} {o o' : HO} (h : H d = some o) (nt : ∀ xs, o ≠ .tup xs) (nl : (∀ xs, o ≠ .lst xs) ∨ G d ≠ none) : KeepL G H (upd H d o') :=
  ⟨fun L us n hL => by
    rw [upd_ne (fun z => by
      rw [z] at hL n
      rw [h] at hL
      cases hL
      rcases nl with y | y
      · exact y us rfl
      · exact y n)]
    exact hL, fun c xs hc => by
    rw [upd_ne (fun z => by
      rw [z, h] at hc
      cases hc
      exact nt xs rfl)]
    exact hc⟩
def OAt (G H : Hp) (v : V) (o : List NK) : Prop := ∃ L us, v = V.ref L ∧ G L = none ∧ H L = some (.lst us) ∧ NAts H us o
def TAt (G H : Hp) (v : V) (t : List (List NK)) : Prop := ∃ L us, v = V.ref L ∧ G L = none ∧ H L = some (.lst us) ∧ us.length = t.length ∧ ∀ (i : Nat) (o : List NK), t[i]? = some o → ∃ u, us[i]? = some u ∧ OAt G H u o
def SAt (G H : Hp) (v : V) (s : List (List (List NK))) : Prop := ∃ L us, v = V.ref L ∧ G L = none ∧ H L = some (.lst us) ∧ us.length = s.length ∧ ∀ (i : Nat) (t : List (List NK)), s[i]? = some t → ∃ u, us[i]? = some u ∧ TAt G H u t
theorem OAt.kp {G H H' : Hp} {v : V} {o : List NK} (k : KeepL G H H') (h : OAt G H v o) : OAt G H' v o := by
  obtain ⟨L, us, a, b, c, d⟩ := h
  exact ⟨L, us, a, b, k.l _ _ b c, d.tx k.t⟩
theorem TAt.kp {G H H' : Hp} {v : V} {o : List (List NK)} (k : KeepL G H H') (h : TAt G H v o) : TAt G H' v o := by
  obtain ⟨L, us, a, b, c, l, d⟩ := h
  exact ⟨L, us, a, b, k.l _ _ b c, l, fun i o hi => (d i o hi).imp fun u z => ⟨z.1, z.2.kp k⟩⟩
theorem SAt.kp {G H H' : Hp} {v : V} {o : List (List (List NK))} (k : KeepL G H H') (h : SAt G H v o) : SAt G H' v o := by
  obtain ⟨L, us, a, b, c, l, d⟩ := h
  exact ⟨L, us, a, b, k.l _ _ b c, l, fun i o hi => (d i o hi).imp fun u z => ⟨z.1, z.2.kp k⟩⟩
theorem OAt.gm {G G0 H : Hp} {v : V} {o : List NK} (m : ∀ a, G a = none → G0 a = none) (h : OAt G H v o) : OAt G0 H v o := by
  obtain ⟨L, us, a, b, c, d⟩ := h
  exact ⟨L, us, a, m _ b, c, d⟩
theorem TAt.gm {G G0 H : Hp} {v : V} {o : List (List NK)} (m : ∀ a, G a = none → G0 a = none) (h : TAt G H v o) : TAt G0 H v o := by
  obtain ⟨L, us, a, b, c, l, d⟩ := h
  exact ⟨L, us, a, m _ b, c, l, fun i o hi => (d i o hi).imp fun u z => ⟨z.1, z.2.gm m⟩⟩
theorem SAt.gm {G G0 H : Hp} {v : V} {o : List (List (List NK))} (m : ∀ a, G a = none → G0 a = none) (h : SAt G H v o) : SAt G0 H v o := by
  obtain ⟨L, us, a, b, c, l, d⟩ := h
  exact ⟨L, us, a, m _ b, c, l, fun i o hi => (d i o hi).imp fun u z => ⟨z.1, z.2.gm m⟩⟩
/-! ### a duel -/
abbrev Tk := NK → List (List (List NK))
def aftersF (s : List (List (List NK))) : List NK := s.flatMap fun t => t.flatMap fun o => o
theorem mem_afters {s : List (List (List NK))} {x : NK} : x ∈ aftersF s ↔ ∃ t ∈ s, ∃ o ∈ t, x ∈ o := by
  unfold aftersF
  rw [List.mem_flatMap]
  refine exists_congr fun t => and_congr_right fun _ => ?_
  rw [List.mem_flatMap]
/-- a duel's places and tasks, all of them few -/
structure DuelF (tk : Tk) (Pl : List NK) (M : Nat) : Prop where
  cl : ∀ k ∈ Pl, ∀ x ∈ aftersF (tk k), x ∈ Pl
  am : ∀ k ∈ Pl, (aftersF (tk k)).length ≤ M
  pm : Pl.length * M ≤ 90000
  dp : ∀ k ∈ Pl, k.depth ≤ 5 ∧ (∃ ks, k = .tup ks) ∧ okN k = true
  tl : ∀ k ∈ Pl, (tk k).length ≤ 1000 ∧ ∀ t ∈ tk k, t.length ≤ 1000 ∧ ∀ o ∈ t, o.length ≤ 1000
  pl : Pl.length ≤ 90000
  tm : ∃ N, (∀ k ∈ Pl, (tk k).length ≤ N) ∧ Pl.length * N ≤ 90000
/-- the promise of tasks_at; DU: the duel stands as it is -/
def sp_tasksAt (DU : Hp → Prop) (d : Addr) (tk : Tk) (Pl : List NK) : Sp := fun vs H Q _ => ∃ (p : Addr) (k : NK), vs = [.ref d, .ref p] ∧ DU H ∧ NAt H (.ref p) k ∧ k ∈ Pl ∧ ∀ v H', Ex H H' → SAt H H' v (tk k) → Q v H'
theorem wh_go {c : TT} {tb : TS} {D : Ends} {σ : L2.St} {H : Hp} (W : Nat → L2.St → Hp → Prop) (h0 : ∃ m, W m σ H) (hs : ∀ m σ H, W m σ H → c σ H fun b H1 => if b = true then tb { D with nx := fun σ' H' => ∃ m', m' < m ∧ W m' σ' H', ct := fun σ' H' => ∃ m', m' < m ∧ W m' σ' H', bk := D.nx } σ H1 else D.nx σ H1)
    (mono : ∀ σ H (Q Q' : Bool → Hp → Prop), (∀ b H1, Q b H1 → Q' b H1) → c σ H Q → c σ H Q') : tWhile c tb D σ H := by
  refine ⟨W, h0, fun m σ H w => mono σ H _ _ (fun b H1 q => ?_) (hs m σ H w)⟩
  cases b with
  | false => exact q
  | true => exact ⟨_, fun σ' H' z => z, q⟩
end

end K12

set_option Elab.async false
set_option linter.all false
set_option maxRecDepth 100000
set_option maxHeartbeats 2000000
namespace K12
open PySem PySem.Spec PyProof.Rows L2 Evl AE
local macro_rules | `(tactic| walk_at "c") => `(tactic| first | exact ⟨by decide, by decide⟩ | exact .inr ⟨by decide, by decide⟩ | exact .inl ⟨by decide, by decide⟩ | exact ⟨by decide, by decide, by decide⟩ | (show (0 : Int) < _; decide))
local macro_rules | `(tactic| walk_at "s") => `(tactic| first
  | (with_reducible refine r_var rfl ?_) | (with_reducible refine r_c ?_) | (with_reducible refine r_op ?_) | (with_reducible refine r_un ?_) | (with_reducible refine r_I0 ?_) | (with_reducible refine r_U ?_)
  | (with_reducible refine r_eq rfl ?_) | (with_reducible refine r_ne rfl ?_) | (with_reducible refine r_chain ?_) | (with_reducible refine r_test ?_) | (with_reducible refine r_tB ?_)
  | (with_reducible refine r_bl ?_) | (with_reducible refine r_and ?_) | (with_reducible refine r_or ?_) | (with_reducible refine r_not ?_) | (with_reducible refine r_nil ?_) | (with_reducible refine r_cons ?_)
  | (with_reducible refine r_tupK ?_) | (with_reducible refine r_lstK ?_) | (with_reducible refine r_cb ?_) | (with_reducible refine r_revL ?_) | (with_reducible refine r_ost ?_) | (with_reducible refine r_mkO ?_) | (with_reducible refine r_makeK ?_) | (with_reducible refine r_make ?_) | (with_reducible refine r_setdN ?_) | (with_reducible refine r_nget2 ?_) | (with_reducible refine r_nnew ?_) | (with_reducible refine r_call ?_) | (with_reducible refine r_seq ?_) | (with_reducible refine r_set ?_)
  | (with_reducible refine r_drop ?_) | (with_reducible refine r_ret ?_) | (with_reducible refine r_next ?_) | (with_reducible refine r_if ?_) | (with_reducible refine r_sl ?_) | (with_reducible refine r_nop ?_) | (with_reducible refine r_prt ?_) | (with_reducible refine r_some ?_)
  | (with_reducible refine add_int ?_) | (with_reducible refine int_i ?_) | (with_reducible refine r_forR1 ?_) | (with_reducible refine r_forR2 ?_) | (with_reducible refine r_meth ?_) | (with_reducible refine r_makeS ?_) | (with_reducible refine r_opS ?_) | (with_reducible refine r_makeRS ?_) | (with_reducible refine r_methH ?_) | (with_reducible refine r_callS ?_) | (with_reducible refine r_forL ?_) | (with_reducible refine r_andV ?_) | (with_reducible refine r_orV ?_) | (with_reducible refine r_notV ?_) | (with_reducible refine r_ifE ?_) | (with_reducible refine r_lcL ?_) | (with_reducible refine r_fld ?_) | (with_reducible refine r_get ?_) | (with_reducible refine r_din ?_) | (with_reducible refine r_dget2 ?_) | ((with_reducible refine r_I ?_ ?_); (walk_at "c")))
local macro_rules | `(tactic| walk_at "g") => `(tactic| repeat walk_at "s")
section
variable {P : Program} {w : World} {K : PySem.W.Frag} {mg : Str → Option Value} {base : Heap}
theorem nats_len {H : Hp} {us : List V} {ks : List NK} (h : NAts H us ks) : us.length = ks.length := h.len
theorem afters_take {s : List (List (List NK))} {i : Nat} {t : List (List NK)} (h : s[i]? = some t) : aftersF (s.take (i + 1)) = aftersF (s.take i) ++ t.flatMap fun o => o := by
  unfold aftersF
  rw [List.take_add_one, h, List.flatMap_append]
  simp
theorem flat_take {t : List (List NK)} {i : Nat} {o : List NK} (h : t[i]? = some o) : ((t.take (i + 1)).flatMap fun o => o) = ((t.take i).flatMap fun o => o) ++ o := by
  rw [List.take_add_one, h, List.flatMap_append]
  simp
theorem le_flat {t : List (List NK)} (i : Nat) : ((t.take i).flatMap fun o => o).length ≤ (t.flatMap fun o => o).length := by
  have e := congrArg (fun l : List (List NK) => (l.flatMap fun o => o).length) (List.take_append_drop i t)
  simp only [List.flatMap_append, List.length_append] at e
  omega
theorem le_after {s : List (List (List NK))} (i : Nat) : (aftersF (s.take i)).length ≤ (aftersF s).length := by
  have e := congrArg (fun l => (aftersF l).length) (List.take_append_drop i s)
  simp only [aftersF, List.flatMap_append, List.length_append] at e
  unfold aftersF
  omega
theorem afters_go {tl : TE} {s0 s1 s2 s3 s4 s5 s6 s7 : Option V} {G H : Hp} {Q : VK} {v : V} {s : List (List (List NK))} (hv : ∀ R : VK, R v H → tl [s0, s1, s2, s3, s4, s5, s6, s7] H R) (hs : SAt G H v s) (sl : (aftersF s).length ≤ 100000)
    (q : ∀ D acc H', H D = none → Ex H H' → H' D = some (.lst acc) → NAts H' acc (aftersF s) → Q (.ref D) H') :
    tCN (fun _ => .lst []) (emL (tVar 7)) ⟨iList K tl, gName 5, tYes, [5, 6, 7]⟩ [⟨iList K (tVar 5), gName 6, tYes, [6, 7]⟩, ⟨iList K (tVar 6), gName 7, tYes, [7]⟩] [s0, s1, s2, s3, s4, s5, s6, s7] H Q := by
  obtain ⟨L, us, rfl, _, hL, lu, items⟩ := hs
  refine tcn_l (a := L) (xs := us) (fun D i Ha => H D = none ∧ Ex H Ha ∧ ∃ acc, Ha D = some (.lst acc) ∧ NAts Ha acc (aftersF (s.take i))) hv (SqL.of hL) (fun D hD => ⟨hD, Ex.new hD, [], upd_same, by rw [List.take_zero]; exact .nil⟩) (fun D i Ha _ p => SqL.of (p.2.1 _ _ hL)) ?_ ?_
  · rintro D i x Ha hx ⟨nD, eA, acc, hD, na⟩
    have il : i < s.length := by rw [← lu]; exact (List.getElem?_eq_some_iff.mp hx).1
    obtain ⟨u, hu, tA⟩ := items i s[i] (List.getElem?_eq_getElem il)
    rw [hx] at hu
    cases hu
    have step := afters_take (List.getElem?_eq_getElem il)
    have all := le_after (s := s) (i + 1)
    generalize s[i] = t at tA step
    obtain ⟨L1, us1, rfl, _, hL1, lu1, items1⟩ := tA
    refine gname1 ⟨rfl, yes_q (ite_t rfl ?_)⟩
    refine tin_l (a := L1) (xs := us1) (fun j Hb => Ex H Hb ∧ ∃ acc, Hb D = some (.lst acc) ∧ NAts Hb acc (aftersF (s.take i) ++ (t.take j).flatMap fun o => o)) (fun R r => r_var rfl r) (SqL.of (eA _ _ hL1)) ⟨eA, acc, hD, by rw [List.take_zero, List.flatMap_nil, List.append_nil]; exact na⟩ (fun j Hb _ p => SqL.of (p.1 _ _ hL1)) ?_ ?_
    · rintro j x1 Hb hx1 ⟨eB, acc1, hD1, na1⟩
      have jl : j < t.length := by rw [← lu1]; exact (List.getElem?_eq_some_iff.mp hx1).1
      obtain ⟨u1, hu1, oA⟩ := items1 j t[j] (List.getElem?_eq_getElem jl)
      rw [hx1] at hu1
      cases hu1
      have step1 := flat_take (List.getElem?_eq_getElem jl)
      have all1 := le_flat (t := t) (j + 1)
      generalize t[j] = o at oA step1
      obtain ⟨L2, us2, rfl, _, hL2, na2⟩ := oA
      have lu2 := na2.len
      refine gname1 ⟨rfl, yes_q (ite_t rfl ?_)⟩
      refine tin_l (a := L2) (xs := us2) (fun k Hc => Ex H Hc ∧ ∃ acc, Hc D = some (.lst acc) ∧ NAts Hc acc ((aftersF (s.take i) ++ (t.take j).flatMap fun o => o) ++ o.take k)) (fun R r => r_var rfl r) (SqL.of (eB _ _ hL2)) ⟨eB, acc1, hD1, by rw [List.take_zero, List.append_nil]; exact na1⟩ (fun k Hc _ p => SqL.of (p.1 _ _ hL2)) ?_ ?_
      · rintro k x2 Hc hx2 ⟨eC, acc2, hD2, na3⟩
        obtain ⟨kk, hkk, nk⟩ := na2.get hx2
        have kl : k < o.length := (List.getElem?_eq_some_iff.mp hkk).1
        have tk : o.take (k + 1) = o.take k ++ [kk] := by rw [List.take_add_one, hkk]; rfl
        have ln := na3.len
        refine gname1 ⟨rfl, yes_q (ite_t rfl ?_)⟩
        have tx : TxN Hc (upd Hc D (.lst (acc2 ++ [x2]))) := (KeepL.at_ (G := Hc) hD2 (fun _ z => by cases z) (.inr (by rw [hD2]; intro z; cases z))).t
        unfold tIn emL
        refine r_var rfl ?_
        refine ⟨acc2, hD2, ?_, ex_upd eC nD, acc2 ++ [x2], upd_same, ?_⟩
        · rw [List.length_append, List.length_append, List.length_take] at ln
          rw [step, List.length_append] at all
          rw [step1, List.length_append] at all1
          refine sz_lt ?_
          omega
        · rw [tk, ← List.append_assoc]
          exact (na3.tx tx).snoc ((nk.tx (ex_txn eC)).tx tx)
      · rintro Hc ⟨eC, acc2, hD2, na3⟩
        rw [lu2, List.take_length] at na3
        refine ⟨eC, acc2, hD2, ?_⟩
        rw [step1, ← List.append_assoc]
        exact na3
    · rintro Hb ⟨eB, acc1, hD1, na1⟩
      rw [lu1, List.take_length] at na1
      refine ⟨nD, eB, acc1, hD1, ?_⟩
      rw [step]
      exact na1
  · rintro D Ha ⟨nD, eA, acc, hD, na⟩
    rw [lu, List.take_length] at na
    exact q D acc Ha nD eA hD na
end

end K12

set_option Elab.async false
set_option linter.all false
set_option maxRecDepth 100000
set_option maxHeartbeats 2000000
namespace K12
open PySem PySem.Spec PyProof.Rows L2 Evl AE
local macro_rules | `(tactic| walk_at "c") => `(tactic| first | exact ⟨by decide, by decide⟩ | exact .inr ⟨by decide, by decide⟩ | exact .inl ⟨by decide, by decide⟩ | exact ⟨by decide, by decide, by decide⟩ | (show (0 : Int) < _; decide))
local macro_rules | `(tactic| walk_at "s") => `(tactic| first
  | (with_reducible refine r_var rfl ?_) | (with_reducible refine r_c ?_) | (with_reducible refine r_op ?_) | (with_reducible refine r_un ?_) | (with_reducible refine r_I0 ?_) | (with_reducible refine r_U ?_)
  | (with_reducible refine r_eq rfl ?_) | (with_reducible refine r_ne rfl ?_) | (with_reducible refine r_chain ?_) | (with_reducible refine r_test ?_) | (with_reducible refine r_tB ?_)
  | (with_reducible refine r_bl ?_) | (with_reducible refine r_and ?_) | (with_reducible refine r_or ?_) | (with_reducible refine r_not ?_) | (with_reducible refine r_nil ?_) | (with_reducible refine r_cons ?_)
  | (with_reducible refine r_tupK ?_) | (with_reducible refine r_lstK ?_) | (with_reducible refine r_cb ?_) | (with_reducible refine r_revL ?_) | (with_reducible refine r_ost ?_) | (with_reducible refine r_mkO ?_) | (with_reducible refine r_makeK ?_) | (with_reducible refine r_make ?_) | (with_reducible refine r_setdN ?_) | (with_reducible refine r_nget2 ?_) | (with_reducible refine r_nnew ?_) | (with_reducible refine r_call ?_) | (with_reducible refine r_seq ?_) | (with_reducible refine r_set ?_)
  | (with_reducible refine r_drop ?_) | (with_reducible refine r_ret ?_) | (with_reducible refine r_next ?_) | (with_reducible refine r_if ?_) | (with_reducible refine r_sl ?_) | (with_reducible refine r_nop ?_) | (with_reducible refine r_prt ?_) | (with_reducible refine r_some ?_)
  | (with_reducible refine add_int ?_) | (with_reducible refine int_i ?_) | (with_reducible refine r_forR1 ?_) | (with_reducible refine r_forR2 ?_) | (with_reducible refine r_meth ?_) | (with_reducible refine r_makeS ?_) | (with_reducible refine r_opS ?_) | (with_reducible refine r_makeRS ?_) | (with_reducible refine r_methH ?_) | (with_reducible refine r_callS ?_) | (with_reducible refine r_forL ?_) | (with_reducible refine r_andV ?_) | (with_reducible refine r_orV ?_) | (with_reducible refine r_notV ?_) | (with_reducible refine r_ifE ?_) | (with_reducible refine r_lcL ?_) | (with_reducible refine r_fld ?_) | (with_reducible refine r_get ?_) | (with_reducible refine r_din ?_) | (with_reducible refine r_dget2 ?_) | ((with_reducible refine r_I ?_ ?_); (walk_at "c")))
local macro_rules | `(tactic| walk_at "g") => `(tactic| repeat walk_at "s")
section
variable {P : Program} {w : World} {K : PySem.W.Frag} {mg : Str → Option Value} {base : Heap}
theorem hu64_of' {A : Around} {k : Nat} (hr : Room k A) : A.units + 64 < cLine := hu64_of hr
theorem nodupN_sub : ∀ (l l' : List NK), l.Nodup → (∀ x ∈ l, x ∈ l') → l.length ≤ l'.length
  | [], _, _, _ => Nat.zero_le _
  | x :: l, l', h, s => by
    have hx := s x (List.mem_cons_self ..)
    obtain ⟨h1, h2⟩ := List.nodup_cons.mp h
    have ih := nodupN_sub l (l'.erase x) h2 fun y hy => (List.mem_erase_of_ne (fun e => h1 (by rw [← e]; exact hy))).mpr (s y (List.mem_cons_of_mem _ hy))
    rw [List.length_erase_of_mem hx] at ih
    have := List.length_pos_of_mem hx
    rw [List.length_cons]
    omega
theorem valN_mem {kvs : List NE} {k : NK} {v : V} (h : valN kvs k = some v) : ∃ b, (k, b, v) ∈ kvs := by
  unfold valN at h
  obtain ⟨x, hx, rfl⟩ := Option.map_eq_some_iff.mp h
  have e : x.1 = k := of_decide_eq_true (List.find?_some (p := fun x : NE => decide (x.1 = k)) hx)
  refine ⟨x.2.1, ?_⟩
  rw [← e]
  exact List.mem_of_find?_eq_some hx
theorem valN_none {kvs : List NE} {k : NK} : valN kvs k = none ↔ k ∉ kvs.map (·.1) := by
  unfold valN
  rw [Option.map_eq_none_iff, List.find?_eq_none]
  constructor
  · intro h m
    obtain ⟨x, hx, e⟩ := List.mem_map.mp m
    exact h x hx (decide_eq_true e)
  · intro h x hx e
    exact h (List.mem_map.mpr ⟨x, hx, of_decide_eq_true e⟩)
theorem putN_new {kvs : List NE} {k : NK} {b : Addr} {v : V} (h : valN kvs k = none) : putN kvs k b v = kvs ++ [(k, b, v)] := by
  unfold putN
  rw [h]
  rfl
theorem nats_snoc_inv {H : Hp} : ∀ {us : List V} {ks : List NK} {k : NK}, NAts H us (ks ++ [k]) → ∃ us' u, us = us' ++ [u] ∧ NAts H us' ks ∧ NAt H u k
  | _, [], _, .cons a .nil => ⟨[], _, rfl, .nil, a⟩
  | _, x :: ks, k, .cons a t => by
    obtain ⟨us', u, rfl, b, c⟩ := nats_snoc_inv (ks := ks) t
    exact ⟨_ :: us', u, rfl, .cons a b, c⟩
structure TasksAt (w : World) (G H : Hp) (D : Addr) (kvs : List NE) (tk : Tk) (Pl : List NK) : Prop where
  d : H D = some (dN w D kvs)
  ko : KeysOk H kvs
  nd : (kvs.map (·.1)).Nodup
  st : ∀ e ∈ kvs, e.1 ∈ Pl ∧ SAt G H e.2.2 (tk e.1)
def sp_reached (w : World) (DU : Hp → Prop) (d : Addr) (tk : Tk) (Pl : List NK) : Sp := fun vs H Q _ => ∃ (p : Addr) (k0 : NK), vs = [.ref d, .ref p] ∧ DU H ∧ NAt H (.ref p) k0 ∧ k0 ∈ Pl ∧
  ∀ D kvs H', H D = none → Ex H H' → TasksAt w H H' D kvs tk Pl → (∀ e ∈ kvs, ∀ x ∈ aftersF (tk e.1), x ∈ kvs.map (·.1)) → k0 ∈ kvs.map (·.1) → Q (.ref D) H'
theorem r_nput' {w : World} {tv td ty : TE} {σ : L2.St} {H : Hp} {D : Ends} (q : tv σ H fun v H1 => td σ H1 fun x H2 => ty σ H2 fun y H3 => ∃ a H4, x = .ref a ∧ NPut w H3 a y v H4 ∧ D.nx σ H4) : sNPut w td ty tv D σ H := q
theorem ok_reached (T : Tp K mg) {DU : Hp → Prop} {d C f : Addr} {fd : FuncData} {tk : Tk} {Pl : List NK} {M : Nat} (DF : DuelF tk Pl M) (hIns : ∀ H, DU H → ∃ dx fs, H d = some (.ins C dx fs) ∧ List.lookup ("tasks_at" : Str) fs = none) (hEx : ∀ H H', Ex H H' → DU H → DU H') (cD : Cls K C) (mD : Meth K C "tasks_at" f) (GD : FnOk P w K mg base CX0 5 f fd ["self", "place"] (sp_tasksAt DU d tk Pl)) (bD : Binds K fd ["self", "place"] []) :
    FnOk P w K mg base CX0 6 T.a_reached_tasks T.d_reached_tasks ["duel", "start"] (sp_reached w DU d tk Pl) := by
  refine T.f_reached_tasks.ok sc_reached_tasks (fun vs H Q E h => ?_) (fun cdv A outer s H vs Q E hr h => ?_)
  · obtain ⟨p, k0, rfl, _⟩ := h
    rfl
  · obtain ⟨p, k0, rfl, hdu, hp, hk0, q⟩ := h
    have hu64 := hu64_of hr
    refine ⟨_, (pss_cons (ps_set (i := 2) sc_reached_tasks.nd rfl (.inl rfl) (pe_nnew (X := _)))
  (pss_cons (ps_set (i := 3) sc_reached_tasks.nd rfl (.inl rfl) (pe_lst (pa_cons (pv 1) pa_nil)))
  (pss_cons (ps_while PassesOwn.never (pt_truth (pv 3) (fun _ => rfl)) (pss_cons (ps_set (i := 4) sc_reached_tasks.nd rfl (.inl rfl) (pe_bm0 PySem.F.plainAttrs_list PySem.F.slot_list_pop PySem.F.type_list_pop mt_pop (pv 3)))
  (pss_one (ps_if (pt_cmp (pc_nnotin hu64 (pv 4) (pv 2))) (pss_cons (ps_nput hu64 (pv 2) (pv 4) (pe_meth (pv 0) cD mD GD (hr.mono (by decide)) bD .nil pass0 (pa_cons (pv 4) pa_nil)) rfl)
  (pss_one (ps_expr (pe_bm PySem.F.plainAttrs_list PySem.F.slot_list_extend PySem.F.type_list_extend mt_extend (pv 3) (pa_cons (pe_lcN (own := [("options", 5), ("afters", 6), ("after", 7)]) (g := gName 5) (tt := tYes) rfl sc_reached_tasks.nd (pi_list (pe_nget hu64 (pv 2) (pv 4) (fun _ _ => rfl))) (blkOk_by (N := N_reached_tasks) (sc := defScope s_reached_tasks) (by decide +kernel)) (by exact ⟨(by show ∀ i ∈ ([6, 7] : List Nat), i ∈ ([5, 6, 7] : List Nat); decide), ⟨(by show ∀ i ∈ ([7] : List Nat), i ∈ ([6, 7] : List Nat); decide), True.intro⟩⟩) (fun _ _ _ _ _ => (pg_name (i := 5) sc_reached_tasks.nd rfl (.inl rfl))) (fun _ _ _ _ _ => pts_nil) (fun _ _ _ _ _ => (gok_cons (g := gName 6) (tt := tYes) [6, 7] (pi_listK' (K := K) (pv 5)) (pg_name (i := 6) sc_reached_tasks.nd rfl (.inl rfl)) pts_nil (gok_cons (g := gName 7) (tt := tYes) [7] (pi_listK' (K := K) (pv 6)) (pg_name (i := 7) sc_reached_tasks.nd rfl (.inl rfl)) pts_nil GensOk.nil))) (fun _ _ _ _ _ => (pv 7))) pa_nil))))) pss_nil))))
  (pss_one (ps_ret (pv 2)))))), ?_⟩
    walk_at "g"
    refine nnew_go fun D H1 nD e1 hD => ?_
    walk_at "g"
    refine lst_go fun F H2 nF e2 hF => ?_
    walk_at "g"
    have nFH : H F = none := none_ex e1 nF
    have lv_ex : ∀ {A B : Hp}, Ex A B → ∀ a, B a = none → A a = none := fun e a z => none_ex e z
    have lv_up : ∀ {A : Hp} {d : Addr} {o o' : HO}, A d = some o → ∀ a, (upd A d o') a = none → A a = none := fun {A d o o'} hd a z => by
      by_cases y : a = d
      · rw [y, upd_same] at z
        cases z
      · rwa [upd_ne y] at z
    refine wh_go (fun m σ' Ha => ∃ y4 y5 y6 y7 kvs us fs, σ' = [some (.ref d), some (.ref p), some (.ref D), some (.ref F), y4, y5, y6, y7] ∧ Ex H Ha ∧ (∀ a, Ha a = none → H2 a = none) ∧ TasksAt w H2 Ha D kvs tk Pl ∧ Ha F = some (.lst us) ∧ NAts Ha us fs ∧ (∀ x ∈ fs, x ∈ Pl) ∧
      (∀ e ∈ kvs, ∀ x ∈ aftersF (tk e.1), x ∈ kvs.map (·.1) ∨ x ∈ fs) ∧ (k0 ∈ kvs.map (·.1) ∨ k0 ∈ fs) ∧ fs.length ≤ 1 + kvs.length * M ∧ m = (Pl.length - kvs.length) * (M + 1) + fs.length)
      ⟨_, _, _, _, _, [], [.ref p], [k0], rfl, e1.trans e2, fun _ z => z, ⟨e2 _ _ hD, (fun _ z => nomatch z), List.nodup_nil, fun _ z => nomatch z⟩, hF, .cons (hp.tx (ex_txn (e1.trans e2))) .nil, fun x hx => by rw [List.mem_singleton.mp hx]; exact hk0, fun _ z => (nomatch z), .inr (List.mem_singleton_self _), by show 1 ≤ 1 + 0 * M; omega, rfl⟩ ?_ ?_
    · rintro m σ' Ha ⟨y4, y5, y6, y7, kvs, us, fs, rfl, eA, lv, TA, hFa, na, fp, cl, s0, fl, rfl⟩
      have lu := na.len
      have nFD : D ≠ F := fun z => by rw [← z, TA.d] at hFa; cases hFa
      have kl : kvs.length ≤ Pl.length := by
        have := nodupN_sub _ Pl TA.nd fun x hx => by
          obtain ⟨e, he, rfl⟩ := List.mem_map.mp hx
          exact (TA.st e he).1
        rwa [List.length_map] at this
      have km : kvs.length * M ≤ 90000 := Nat.le_trans (Nat.mul_le_mul_right M kl) DF.pm
      refine r_tru rfl (.inl ⟨us, SqL.of hFa, rfl⟩) ?_
      rcases List.eq_nil_or_concat fs with rfl | ⟨fs', x, rfl⟩
      · have ez : us = [] := List.length_eq_zero_iff.mp lu
        rw [ez]
        refine ite_f rfl ?_
        walk_at "g"
        exact q D kvs Ha nD eA ⟨TA.d, TA.ko, TA.nd, fun e he => ⟨(TA.st e he).1, (TA.st e he).2.gm (lv_ex (e1.trans e2))⟩⟩ (fun e he x hx => (cl e he x hx).resolve_right (fun z => nomatch z)) (s0.resolve_right (fun z => nomatch z))
      · rw [List.concat_eq_append] at na fp cl s0 fl ⊢
        obtain ⟨us', u, rfl, na', nu⟩ := nats_snoc_inv na
        refine ite_t (by cases us' <;> rfl) ?_
        walk_at "g"
        refine r_popL rfl hFa ?_
        have kF : KeepL H2 Ha (upd Ha F (.lst us')) := KeepL.at_ hFa (fun _ z => by cases z) (.inr (by rw [hF]; intro z; cases z))
        have eB : Ex H (upd Ha F (.lst us')) := ex_upd eA nFH
        have lvB : ∀ a, (upd Ha F (.lst us')) a = none → H2 a = none := fun a z => lv a (lv_up hFa a z)
        have TB : TasksAt w H2 (upd Ha F (.lst us')) D kvs tk Pl := ⟨by rw [upd_ne nFD]; exact TA.d, TA.ko.tx kF.t, TA.nd, fun e he => ⟨(TA.st e he).1, (TA.st e he).2.kp kF⟩⟩
        have hFB : (upd Ha F (.lst us')) F = some (.lst us') := upd_same
        have naB := na'.tx kF.t
        have nuB := nu.tx kF.t
        generalize (upd Ha F (.lst us')) = Hb at eB lvB TB hFB naB nuB
        have xP := fp x (List.mem_append_right _ (List.mem_singleton_self _))
        obtain ⟨xd, ⟨ks, rfl⟩, xo⟩ := DF.dp x xP
        obtain ⟨b, vx, rfl, hb, hvx⟩ := id nuB.tupOf
        have fl' : fs'.length ≤ kvs.length * M := by rw [List.length_append] at fl; simp only [List.length_cons, List.length_nil] at fl; omega
        walk_at "g"
        refine r_nnotin ?_
        walk_at "g"
        refine ⟨D, _, rfl, ⟨kvs, .tup ks, b, .inl TB.d, TB.ko, rfl, by omega, nuB, rfl⟩, ?_⟩
        by_cases old : NK.tup ks ∈ kvs.map (·.1)
        · have ev : (valN kvs (.tup ks)).isSome = true := by
            cases z : valN kvs (.tup ks) with
            | none => exact absurd old (valN_none.mp z)
            | some _ => rfl
          rw [ev]
          refine ⟨_, rfl, ite_f rfl ?_⟩
          walk_at "g"
          refine ⟨_, ?_, _, _, _, _, kvs, us', fs', rfl, eB, lvB, TB, hFB, naB, fun y hy => fp y (List.mem_append_left _ hy), fun e he y hy => ?_, ?_, by omega, rfl⟩
          · rw [List.length_append]
            simp only [List.length_cons, List.length_nil]
            omega
          · rcases cl e he y hy with z | z
            · exact .inl z
            · rcases List.mem_append.mp z with z | z
              · exact .inr z
              · rw [List.mem_singleton.mp z]
                exact .inl old
          · rcases s0 with z | z
            · exact .inl z
            · rcases List.mem_append.mp z with z | z
              · exact .inr z
              · rw [List.mem_singleton.mp z]
                exact .inl old
        · have ev := valN_none.mpr old
          rw [ev]
          refine ⟨_, rfl, ite_t rfl ?_⟩
          have kl2 : kvs.length < Pl.length := by
            have nd2 : (kvs.map (·.1) ++ [NK.tup ks]).Nodup := by
              rw [List.nodup_append]
              exact ⟨TB.nd, List.nodup_cons.mpr ⟨fun z => (nomatch z), List.nodup_nil⟩, fun a ha c hc z => old (by rw [← List.mem_singleton.mp hc, ← z]; exact ha)⟩
            have := nodupN_sub _ Pl nd2 fun y hy => by
              rcases List.mem_append.mp hy with hy | hy
              · obtain ⟨e, he, rfl⟩ := List.mem_map.mp hy
                exact (TB.st e he).1
              · rw [List.mem_singleton.mp hy]
                exact xP
            rw [List.length_append, List.length_map] at this
            exact this
          have kp2 := DF.pl
          refine r_seq ?_
          refine r_nput' ?_
          walk_at "g"
          obtain ⟨dx, fs0, hd, hlk⟩ := hIns _ (hEx _ _ eB hdu)
          refine ⟨d, dx, _, rfl, hd, hlk, ?_⟩
          walk_at "g"
          refine ⟨b, .tup ks, rfl, hEx _ _ eB hdu, nuB, xP, fun v Hc eC sv => ?_⟩
          walk_at "g"
          refine ⟨D, upd Hc D (dN w D (putN kvs (.tup ks) b v)), rfl, ⟨kvs, .tup ks, b, eC _ _ TB.d, TB.ko.tx (ex_txn eC), rfl, by omega, nuB.tx (ex_txn eC), sz_lt (by omega), rfl⟩, ?_⟩
          rw [putN_new ev]
          have dC := eC _ _ TB.d
          have kD : KeepL H2 Hc (upd Hc D (dN w D (kvs ++ [(.tup ks, b, v)]))) := KeepL.at_ dC (fun _ z => by cases z) (.inl (fun _ z => by cases z))
          have kBC : KeepL H2 Hb Hc := KeepL.ex eC
          have eD : Ex H (upd Hc D (dN w D (kvs ++ [(.tup ks, b, v)]))) := ex_upd (eB.trans eC) nD
          have lvD : ∀ a, (upd Hc D (dN w D (kvs ++ [(.tup ks, b, v)]))) a = none → H2 a = none := fun a z => lvB a (lv_ex eC a (lv_up dC a z))
          have hFD : (upd Hc D (dN w D (kvs ++ [(.tup ks, b, v)]))) F = some (.lst us') := by rw [upd_ne (Ne.symm nFD)]; exact eC _ _ hFB
          have svD := (sv.gm lvB).kp kD
          have nuD := (nuB.tx (ex_txn eC)).tx kD.t
          have naD := (naB.tx (ex_txn eC)).tx kD.t
          have TD : TasksAt w H2 (upd Hc D (dN w D (kvs ++ [(.tup ks, b, v)]))) D (kvs ++ [(.tup ks, b, v)]) tk Pl := by
            refine ⟨upd_same, fun e he => ?_, ?_, fun e he => ?_⟩
            · rcases List.mem_append.mp he with he | he
              · exact (TB.ko.tx (ex_txn eC)).tx kD.t e he
              · rw [List.mem_singleton.mp he]
                exact ⟨by show (NK.tup ks).depth ≤ 8; omega, nuD⟩
            · rw [List.map_append, List.nodup_append]
              exact ⟨TB.nd, List.nodup_cons.mpr ⟨fun z => (nomatch z), List.nodup_nil⟩, fun a ha c hc z => old (by have e : c = NK.tup ks := List.mem_singleton.mp hc; rw [← e, ← z]; exact ha)⟩
            · rcases List.mem_append.mp he with he | he
              · exact ⟨(TB.st e he).1, ((TB.st e he).2.kp kBC).kp kD⟩
              · rw [List.mem_singleton.mp he]
                exact ⟨xP, svD⟩
          generalize (upd Hc D (dN w D (kvs ++ [(.tup ks, b, v)]))) = Hd at eD lvD hFD svD nuD naD TD
          have am := DF.am _ xP
          have sl : (aftersF (tk (.tup ks))).length ≤ 90000 := by
            have h1 : 1 * M ≤ Pl.length * M := Nat.mul_le_mul_right M (by omega)
            have := DF.pm
            omega
          walk_at "g"
          refine r_extL rfl hFD ?_
          refine afters_go (G := H2) (v := v) (fun R r => r_nget (r_var rfl (r_var rfl ⟨D, v, rfl, ⟨_, .tup ks, b, .inl TD.d, TD.ko, rfl, by omega, nuD, ?_⟩, r⟩))) svD (Nat.le_trans sl (by decide)) fun D2 acc He nD2 eE hD2 naE => ?_
          · rw [valN_snoc, ev, if_pos rfl]
            rfl
          have hFE := eE _ _ hFD
          have la := naE.len
          have h3 : (kvs.length + 1) * M ≤ Pl.length * M := Nat.mul_le_mul_right M kl2
          rw [Nat.add_mul, Nat.one_mul] at h3
          have h4 := DF.pm
          have lu2 := naD.len
          refine ext_l hFE hD2 (by omega) ?_
          walk_at "g"
          have kF2 : KeepL H2 He (upd He F (.lst (us' ++ acc))) := KeepL.at_ hFE (fun _ z => by cases z) (.inr (by rw [hF]; intro z; cases z))
          have mem2 : ∀ y, y ∈ (kvs ++ [((.tup ks : NK), b, v)]).map (·.1) ↔ y ∈ kvs.map (·.1) ∨ y = .tup ks := fun y => by
            rw [List.map_append, List.mem_append]
            exact or_congr_right List.mem_singleton
          refine ⟨_, ?_, _, _, _, _, kvs ++ [(.tup ks, b, v)], us' ++ acc, fs' ++ aftersF (tk (.tup ks)), rfl, ex_upd (eD.trans eE) nFH, fun a z => lvD a (lv_ex eE a (lv_up hFE a z)), ⟨by rw [upd_ne nFD]; exact eE _ _ TD.d, (TD.ko.tx (ex_txn eE)).tx kF2.t, TD.nd, fun e he => ⟨(TD.st e he).1, ((TD.st e he).2.kp (KeepL.ex eE)).kp kF2⟩⟩, upd_same, ((naD.tx (ex_txn eE)).tx kF2.t).app (naE.tx kF2.t), fun y hy => ?_, fun e he y hy => ?_, ?_, ?_, rfl⟩
          · rw [List.length_append, List.length_append, List.length_append]
            simp only [List.length_cons, List.length_nil, Nat.zero_add]
            have e1 : Pl.length - kvs.length = (Pl.length - (kvs.length + 1)) + 1 := by omega
            rw [e1, Nat.add_mul, Nat.one_mul]
            omega
          · rcases List.mem_append.mp hy with hy | hy
            · exact fp y (List.mem_append_left _ hy)
            · exact DF.cl _ xP y hy
          · rw [mem2, List.mem_append]
            rcases List.mem_append.mp he with he | he
            · rcases cl e he y hy with z | z
              · exact .inl (.inl z)
              · rcases List.mem_append.mp z with z | z
                · exact .inr (.inl z)
                · exact .inl (.inr (List.mem_singleton.mp z))
            · rw [List.mem_singleton.mp he] at hy
              exact .inr (.inr hy)
          · rw [mem2, List.mem_append]
            rcases s0 with z | z
            · exact .inl (.inl z)
            · rcases List.mem_append.mp z with z | z
              · exact .inr (.inl z)
              · exact .inl (.inr (List.mem_singleton.mp z))
          · rw [List.length_append, List.length_append]
            simp only [List.length_cons, List.length_nil, Nat.zero_add]
            rw [Nat.add_mul, Nat.one_mul]
            omega
    · intro σ' Ha R R' imp h
      obtain ⟨v, hv, k, t, r⟩ := h
      exact ⟨v, hv, k, t, imp _ _ r⟩
end

end K12

set_option Elab.async false
set_option linter.all false
set_option maxRecDepth 100000
set_option maxHeartbeats 2000000
namespace K12
open PySem PySem.Spec PyProof.Rows L2 Evl AE
local macro_rules | `(tactic| walk_at "c") => `(tactic| first | exact ⟨by decide, by decide⟩ | exact .inr ⟨by decide, by decide⟩ | exact .inl ⟨by decide, by decide⟩ | exact ⟨by decide, by decide, by decide⟩ | (show (0 : Int) < _; decide))
local macro_rules | `(tactic| walk_at "s") => `(tactic| first
  | (with_reducible refine r_var rfl ?_) | (with_reducible refine r_c ?_) | (with_reducible refine r_op ?_) | (with_reducible refine r_un ?_) | (with_reducible refine r_I0 ?_) | (with_reducible refine r_U ?_)
  | (with_reducible refine r_eq rfl ?_) | (with_reducible refine r_ne rfl ?_) | (with_reducible refine r_chain ?_) | (with_reducible refine r_test ?_) | (with_reducible refine r_tB ?_)
  | (with_reducible refine r_bl ?_) | (with_reducible refine r_and ?_) | (with_reducible refine r_or ?_) | (with_reducible refine r_not ?_) | (with_reducible refine r_nil ?_) | (with_reducible refine r_cons ?_)
  | (with_reducible refine r_tupK ?_) | (with_reducible refine r_lstK ?_) | (with_reducible refine r_cb ?_) | (with_reducible refine r_revL ?_) | (with_reducible refine r_ost ?_) | (with_reducible refine r_mkO ?_) | (with_reducible refine r_makeK ?_) | (with_reducible refine r_make ?_) | (with_reducible refine r_setdN ?_) | (with_reducible refine r_nget2 ?_) | (with_reducible refine r_nnew ?_) | (with_reducible refine r_call ?_) | (with_reducible refine r_seq ?_) | (with_reducible refine r_set ?_)
  | (with_reducible refine r_drop ?_) | (with_reducible refine r_ret ?_) | (with_reducible refine r_next ?_) | (with_reducible refine r_if ?_) | (with_reducible refine r_sl ?_) | (with_reducible refine r_nop ?_) | (with_reducible refine r_prt ?_) | (with_reducible refine r_some ?_)
  | (with_reducible refine add_int ?_) | (with_reducible refine int_i ?_) | (with_reducible refine r_forR1 ?_) | (with_reducible refine r_forR2 ?_) | (with_reducible refine r_meth ?_) | (with_reducible refine r_makeS ?_) | (with_reducible refine r_opS ?_) | (with_reducible refine r_makeRS ?_) | (with_reducible refine r_methH ?_) | (with_reducible refine r_callS ?_) | (with_reducible refine r_forL ?_) | (with_reducible refine r_andV ?_) | (with_reducible refine r_orV ?_) | (with_reducible refine r_notV ?_) | (with_reducible refine r_ifE ?_) | (with_reducible refine r_lcL ?_) | (with_reducible refine r_fld ?_) | (with_reducible refine r_get ?_) | (with_reducible refine r_din ?_) | (with_reducible refine r_dget2 ?_) | ((with_reducible refine r_I ?_ ?_); (walk_at "c")))
local macro_rules | `(tactic| walk_at "g") => `(tactic| repeat walk_at "s")
section
variable {P : Program} {w : World} {K : PySem.W.Frag} {mg : Str → Option Value} {base : Heap}
/-! ### where a place may come -/
abbrev Use := NK × NK
def useN (k : NK) (i j : Nat) : NK := .tup [k, .int (i : Int), .int (j : Int)]
def usesO (k : NK) (i j : Nat) (o : List NK) : List Use := o.map fun x => (x, useN k i j)
def usesT (k : NK) (i : Nat) (t : List (List NK)) (n : Nat) : List Use := (List.range n).flatMap fun j => usesO k i j (t.getD j [])
def usesS (k : NK) (s : List (List (List NK))) (n : Nat) : List Use := (List.range n).flatMap fun i => usesT k i (s.getD i []) (s.getD i []).length
def usesK (tk : Tk) (keys : List NK) : List Use := keys.flatMap fun k => usesS k (tk k) (tk k).length
theorem usesT_snoc (k : NK) (i : Nat) (t : List (List NK)) (n : Nat) : usesT k i t (n + 1) = usesT k i t n ++ usesO k i n (t.getD n []) := by
  unfold usesT
  rw [List.range_succ, List.flatMap_append]
  simp
theorem usesS_snoc (k : NK) (s : List (List (List NK))) (n : Nat) : usesS k s (n + 1) = usesS k s n ++ usesT k n (s.getD n []) (s.getD n []).length := by
  unfold usesS
  rw [List.range_succ, List.flatMap_append]
  simp
theorem usesK_snoc (tk : Tk) (keys : List NK) (k : NK) : usesK tk (keys ++ [k]) = usesK tk keys ++ usesS k (tk k) (tk k).length := by
  unfold usesK
  rw [List.flatMap_append]
  simp
theorem mem_usesK {tk : Tk} {keys : List NK} {x u : NK} : (x, u) ∈ usesK tk keys ↔ ∃ k ∈ keys, ∃ (i j : Nat) (t : List (List NK)) (o : List NK), (tk k)[i]? = some t ∧ t[j]? = some o ∧ x ∈ o ∧ u = useN k i j := by
  unfold usesK usesS usesT usesO
  simp only [List.mem_flatMap, List.mem_map, List.mem_range, Prod.mk.injEq]
  constructor
  · rintro ⟨k, hk, i, hi, j, hj, y, hy, rfl, rfl⟩
    have e1 : (tk k).getD i [] = (tk k)[i] := by rw [List.getD_eq_getElem?_getD, List.getElem?_eq_getElem hi]; rfl
    rw [e1] at hj hy
    have e2 : (tk k)[i].getD j [] = (tk k)[i][j] := by rw [List.getD_eq_getElem?_getD, List.getElem?_eq_getElem hj]; rfl
    rw [e2] at hy
    exact ⟨k, hk, i, j, _, _, List.getElem?_eq_getElem hi, List.getElem?_eq_getElem hj, hy, rfl⟩
  · rintro ⟨k, hk, i, j, t, o, hi, hj, hx, rfl⟩
    have e1 : (tk k).getD i [] = t := by rw [List.getD_eq_getElem?_getD, hi]; rfl
    have e2 : t.getD j [] = o := by rw [List.getD_eq_getElem?_getD, hj]; rfl
    refine ⟨k, hk, i, (List.getElem?_eq_some_iff.mp hi).1, j, ?_, x, ?_, rfl, rfl⟩
    · rw [e1]
      exact (List.getElem?_eq_some_iff.mp hj).1
    · rw [e1, e2]
      exact hx
def ofP (xs : List Use) (k : NK) : List NK := (xs.filter fun p => decide (p.1 = k)).map (·.2)
theorem ofP_snoc (xs : List Use) (x u k : NK) : ofP (xs ++ [(x, u)]) k = if x = k then ofP xs k ++ [u] else ofP xs k := by
  unfold ofP
  rw [List.filter_append, List.map_append]
  by_cases h : x = k
  · rw [if_pos h]
    simp [List.filter_cons, h]
  · rw [if_neg h]
    simp [List.filter_cons, h]
theorem mem_ofP {xs : List Use} {k u : NK} : u ∈ ofP xs k ↔ (k, u) ∈ xs := by
  unfold ofP
  rw [List.mem_map]
  constructor
  · rintro ⟨p, hp, rfl⟩
    obtain ⟨h1, h2⟩ := List.mem_filter.mp hp
    have e : p.1 = k := of_decide_eq_true h2
    rw [← e]
    exact h1
  · intro h
    exact ⟨_, List.mem_filter.mpr ⟨h, decide_eq_true rfl⟩, rfl⟩
theorem key_one {l : List NE} (nd : (l.map (·.1)).Nodup) {e e' : NE} (h : e ∈ l) (h' : e' ∈ l) (k : e.1 = e'.1) : e = e' := by
  have pw : l.Pairwise fun a b => a.1 ≠ b.1 := List.pairwise_map.mp nd
  obtain ⟨i, hi, rfl⟩ := List.getElem_of_mem h
  obtain ⟨j, hj, rfl⟩ := List.getElem_of_mem h'
  rw [List.pairwise_iff_getElem] at pw
  rcases Nat.lt_trichotomy i j with z | z | z
  · exact absurd k (pw i j hi hj z)
  · subst z; rfl
  · exact absurd k.symm (pw j i hj hi z)
/-- the dict of the uses -/
structure UsAt (w : World) (G H : Hp) (U : Addr) (ukvs : List NE) (xs : List Use) (keys : List NK) : Prop where
  u : H U = some (dN w U ukvs)
  ko : KeysOk H ukvs
  ks : ukvs.map (·.1) = keys
  nd : (ukvs.map (·.1)).Nodup
  at_ : ∀ e ∈ ukvs, ∃ L us, e.2.2 = V.ref L ∧ G L = none ∧ H L = some (.lst us) ∧ NAts H us (ofP xs e.1)
  inj : ∀ e ∈ ukvs, ∀ e' ∈ ukvs, e.2.2 = e'.2.2 → e.1 = e'.1
theorem UsAt.kp {G H H' : Hp} {U : Addr} {ukvs : List NE} {xs : List Use} {keys : List NK} (k : KeepL G H H') (hU : H' U = H U) (h : UsAt w G H U ukvs xs keys) : UsAt w G H' U ukvs xs keys :=
  ⟨by rw [hU]; exact h.u, h.ko.tx k.t, h.ks, h.nd, fun e he => by
    obtain ⟨L, us, a, b, c, d⟩ := h.at_ e he
    exact ⟨L, us, a, b, k.l _ _ b c, d.tx k.t⟩, h.inj⟩
theorem UsAt.ex {G H H' : Hp} {U : Addr} {ukvs : List NE} {xs : List Use} {keys : List NK} (e : Ex H H') (h : UsAt w G H U ukvs xs keys) : UsAt w G H' U ukvs xs keys :=
  h.kp (KeepL.ex e) ((e _ _ h.u).trans h.u.symm)
/-- one more use -/
theorem UsAt.push {G H : Hp} {U L : Addr} {ukvs : List NE} {xs : List Use} {keys : List NK} {us : List V} {x u : NK} {b : Addr} {v : V} (h : UsAt w G H U ukvs xs keys) (he : ((x, b, V.ref L) : NE) ∈ ukvs) (hL : H L = some (.lst us)) (na : NAts H us (ofP xs x)) (nv : NAt H v u) :
    UsAt w G (upd H L (.lst (us ++ [v]))) U ukvs (xs ++ [(x, u)]) keys := by
  have nUL : U ≠ L := fun z => by rw [← z, h.u] at hL; cases hL
  have t : TxN H (upd H L (.lst (us ++ [v]))) := fun c ys hc => by
    rw [upd_ne (fun z => by rw [z, hL] at hc; cases hc)]
    exact hc
  refine ⟨by rw [upd_ne nUL]; exact h.u, h.ko.tx t, h.ks, h.nd, fun e hme => ?_, h.inj⟩
  obtain ⟨L1, us1, a, n, c, d⟩ := h.at_ e hme
  by_cases z : L1 = L
  · subst z
    have ek : e.1 = x := h.inj e hme _ he a
    rw [hL] at c
    cases c
    refine ⟨L1, us ++ [v], a, n, upd_same, ?_⟩
    rw [ofP_snoc, if_pos ek.symm, ek]
    exact (na.tx t).snoc (nv.tx t)
  · have ek : e.1 ≠ x := fun q => z (by
      have ee := key_one h.nd hme he q
      rw [ee] at a
      cases a
      rfl)
    refine ⟨L1, us1, a, n, by rw [upd_ne z]; exact c, ?_⟩
    rw [ofP_snoc, if_neg (Ne.symm ek)]
    exact d.tx t
end

end K12

set_option Elab.async false
set_option linter.all false
set_option maxRecDepth 100000
set_option maxHeartbeats 2000000
namespace K12
open PySem PySem.Spec PyProof.Rows L2 Evl AE
local macro_rules | `(tactic| walk_at "c") => `(tactic| first | exact ⟨by decide, by decide⟩ | exact .inr ⟨by decide, by decide⟩ | exact .inl ⟨by decide, by decide⟩ | exact ⟨by decide, by decide, by decide⟩ | (show (0 : Int) < _; decide))
local macro_rules | `(tactic| walk_at "s") => `(tactic| first
  | (with_reducible refine r_var rfl ?_) | (with_reducible refine r_c ?_) | (with_reducible refine r_op ?_) | (with_reducible refine r_un ?_) | (with_reducible refine r_I0 ?_) | (with_reducible refine r_U ?_)
  | (with_reducible refine r_eq rfl ?_) | (with_reducible refine r_ne rfl ?_) | (with_reducible refine r_chain ?_) | (with_reducible refine r_test ?_) | (with_reducible refine r_tB ?_)
  | (with_reducible refine r_bl ?_) | (with_reducible refine r_and ?_) | (with_reducible refine r_or ?_) | (with_reducible refine r_not ?_) | (with_reducible refine r_nil ?_) | (with_reducible refine r_cons ?_)
  | (with_reducible refine r_tupK ?_) | (with_reducible refine r_lstK ?_) | (with_reducible refine r_cb ?_) | (with_reducible refine r_revL ?_) | (with_reducible refine r_ost ?_) | (with_reducible refine r_mkO ?_) | (with_reducible refine r_makeK ?_) | (with_reducible refine r_make ?_) | (with_reducible refine r_setdN ?_) | (with_reducible refine r_nget2 ?_) | (with_reducible refine r_nnew ?_) | (with_reducible refine r_call ?_) | (with_reducible refine r_seq ?_) | (with_reducible refine r_set ?_)
  | (with_reducible refine r_drop ?_) | (with_reducible refine r_ret ?_) | (with_reducible refine r_next ?_) | (with_reducible refine r_if ?_) | (with_reducible refine r_sl ?_) | (with_reducible refine r_nop ?_) | (with_reducible refine r_prt ?_) | (with_reducible refine r_some ?_)
  | (with_reducible refine add_int ?_) | (with_reducible refine int_i ?_) | (with_reducible refine r_forR1 ?_) | (with_reducible refine r_forR2 ?_) | (with_reducible refine r_meth ?_) | (with_reducible refine r_makeS ?_) | (with_reducible refine r_opS ?_) | (with_reducible refine r_makeRS ?_) | (with_reducible refine r_methH ?_) | (with_reducible refine r_callS ?_) | (with_reducible refine r_forL ?_) | (with_reducible refine r_andV ?_) | (with_reducible refine r_orV ?_) | (with_reducible refine r_notV ?_) | (with_reducible refine r_ifE ?_) | (with_reducible refine r_lcL ?_) | (with_reducible refine r_fld ?_) | (with_reducible refine r_get ?_) | (with_reducible refine r_din ?_) | (with_reducible refine r_dget2 ?_) | ((with_reducible refine r_I ?_ ?_); (walk_at "c")))
local macro_rules | `(tactic| walk_at "g") => `(tactic| repeat walk_at "s")
section
variable {P : Program} {w : World} {K : PySem.W.Frag} {mg : Str → Option Value} {base : Heap}
theorem KeepL.ch {G H H' : Hp} {d : Addr} {o : HO} (h : H d = some o) (nt : ∀ xs, o ≠ .tup xs) (nl : ∀ xs, o ≠ .lst xs) (c : Ch d H H') : KeepL G H H' :=
  ⟨fun L us _ hL => c _ _ (fun z => by rw [z, h] at hL; cases hL; exact nl us rfl) hL, fun a xs ha => c _ _ (fun z => by rw [z, h] at ha; cases ha; exact nt xs rfl) ha⟩
theorem chu_ex {d : Addr} {H H1 H2 : Hp} (a : Ch d H H1) (b : Ex H1 H2) : Ch d H H2 := fun c o n h => b _ _ (a c o n h)
theorem chu_up {d x : Addr} {H H1 : Hp} {o : HO} (a : Ch d H H1) (n : H x = none) : Ch d H (upd H1 x o) := fun c p nc h => by
  rw [upd_ne (fun z => by rw [z, n] at h; cases h)]
  exact a c p nc h
/-- the lock is opened again -/
theorem unlk {d : Addr} {H Ha : Hp} {o : HO} (h : H d = some o) (c : Ch d H Ha) : Ex H (upd Ha d o) := fun b p hb => by
  by_cases z : b = d
  · subst z
    rw [h] at hb
    cases hb
    exact upd_same
  · rw [upd_ne z]
    exact c b p z hb
theorem UsAt.nil {w : World} {G H : Hp} {U : Addr} (h : H U = some (dN w U [])) : UsAt w G H U [] [] [] := ⟨h, (fun _ z => nomatch z), rfl, List.nodup_nil, (fun _ z => nomatch z), (fun _ z => nomatch z)⟩
/-- one more place, as yet without a use -/
theorem UsAt.grow {w : World} {G H : Hp} {U L b : Addr} {ukvs : List NE} {keys : List NK} {k : NK} (h : UsAt w G H U ukvs [] keys) (nk : k ∉ keys) (dk : k.depth ≤ 8) (nb : NAt H (.ref b) k) (hL : H L = some (.lst [])) (nL : G L = none) (lv : ∀ e ∈ ukvs, e.2.2 ≠ V.ref L) :
    UsAt w G (upd H U (dN w U (ukvs ++ [(k, b, .ref L)]))) U (ukvs ++ [(k, b, .ref L)]) [] (keys ++ [k]) := by
  have nUL : L ≠ U := fun z => by rw [z, h.u] at hL; cases hL
  have kU : KeepL G H (upd H U (dN w U (ukvs ++ [(k, b, .ref L)]))) := KeepL.at_ h.u (fun _ z => by cases z) (.inl (fun _ z => by cases z))
  refine ⟨upd_same, fun e he => ?_, by rw [List.map_append, h.ks]; rfl, ?_, fun e he => ?_, fun e he e' he' q => ?_⟩
  · rcases List.mem_append.mp he with he | he
    · exact h.ko.tx kU.t e he
    · rw [List.mem_singleton.mp he]
      exact ⟨dk, nb.tx kU.t⟩
  · rw [List.map_append, List.nodup_append]
    refine ⟨h.nd, List.nodup_cons.mpr ⟨fun z => (nomatch z), List.nodup_nil⟩, fun a ha c hc z => nk ?_⟩
    have ec : c = k := List.mem_singleton.mp hc
    rw [← h.ks, ← ec, ← z]
    exact ha
  · rcases List.mem_append.mp he with he | he
    · obtain ⟨L1, us, a, n, c, d⟩ := h.at_ e he
      exact ⟨L1, us, a, n, kU.l _ _ n c, d.tx kU.t⟩
    · rw [List.mem_singleton.mp he]
      exact ⟨L, [], rfl, nL, by rw [upd_ne nUL]; exact hL, .nil⟩
  · rcases List.mem_append.mp he with he | he <;> rcases List.mem_append.mp he' with he' | he'
    · exact h.inj e he e' he' q
    · rw [List.mem_singleton.mp he'] at q
      exact absurd q (lv e he)
    · rw [List.mem_singleton.mp he] at q
      exact absurd q.symm (lv e' he')
    · rw [List.mem_singleton.mp he, List.mem_singleton.mp he']
theorem r_bm {K : PySem.W.Frag} {T : String} {r : V → List V → Hp → VK → Prop} {to : TE} {t : TA} {σ : L2.St} {H : Hp} {Q : VK} (q : to σ H fun x H1 => tyV K T x H1 ∧ t σ H1 fun xs H2 => r x xs H2 Q) : tBM K T r to t σ H Q := q
theorem usesO_take {k : NK} {i j : Nat} {o : List NK} {n : Nat} {x : NK} (h : o[n]? = some x) : usesO k i j (o.take (n + 1)) = usesO k i j (o.take n) ++ [(x, useN k i j)] := by
  unfold usesO
  rw [List.take_add_one, h, List.map_append]
  rfl
theorem valN_at {kvs : List NE} (nd : (kvs.map (·.1)).Nodup) {k : NK} {b : Addr} {v : V} (h : (k, b, v) ∈ kvs) : valN kvs k = some v := by
  cases z : valN kvs k with
  | none => exact absurd (List.mem_map.mpr ⟨_, h, rfl⟩) (valN_none.mp z)
  | some v2 =>
    obtain ⟨b2, h2⟩ := valN_mem z
    have := key_one nd h h2 rfl
    cases this
    rfl
theorem range_le {α : Type} (f : Nat → List α) {n : Nat} : ∀ {m : Nat}, n ≤ m → ((List.range n).flatMap f).length ≤ ((List.range m).flatMap f).length
  | 0, h => by rw [Nat.le_zero.mp h]; exact Nat.le_refl _
  | m + 1, h => by
    rcases Nat.lt_or_ge n (m + 1) with z | z
    · have := range_le f (n := n) (m := m) (by omega)
      rw [List.range_succ, List.flatMap_append, List.length_append]
      omega
    · rw [show n = m + 1 by omega]
      exact Nat.le_refl _
theorem usesT_fst (k : NK) (i : Nat) (t : List (List NK)) : ∀ n, n ≤ t.length → (usesT k i t n).map (·.1) = (t.take n).flatMap fun o => o
  | 0, _ => by rw [List.take_zero]; rfl
  | n + 1, h => by
    have e : t[n]? = some t[n] := List.getElem?_eq_getElem (by omega)
    rw [usesT_snoc, List.map_append, usesT_fst k i t n (by omega), flat_take e]
    congr 1
    unfold usesO
    rw [List.getD_eq_getElem?_getD, e, List.map_map]
    show t[n].map (fun x => x) = _
    rw [List.map_id']
theorem usesS_fst (k : NK) (s : List (List (List NK))) : ∀ n, n ≤ s.length → (usesS k s n).map (·.1) = aftersF (s.take n)
  | 0, _ => by rw [List.take_zero]; rfl
  | n + 1, h => by
    have e : s[n]? = some s[n] := List.getElem?_eq_getElem (by omega)
    rw [usesS_snoc, List.map_append, usesS_fst k s n (by omega), afters_take e]
    congr 1
    have e2 : s.getD n [] = s[n] := by rw [List.getD_eq_getElem?_getD, e]; rfl
    rw [e2, usesT_fst _ _ _ _ (Nat.le_refl _), List.take_length]
theorem usesS_len (k : NK) (s : List (List (List NK))) : (usesS k s s.length).length = (aftersF s).length := by
  have e := congrArg List.length (usesS_fst k s s.length (Nat.le_refl _))
  rwa [List.length_map, List.take_length] at e
theorem usesK_len {tk : Tk} {M : Nat} : ∀ {keys : List NK}, (∀ k ∈ keys, (aftersF (tk k)).length ≤ M) → (usesK tk keys).length ≤ keys.length * M
  | [], _ => Nat.zero_le _
  | k :: keys, h => by
    have ih := usesK_len (keys := keys) fun x hx => h x (List.mem_cons_of_mem _ hx)
    have h0 := h k (List.mem_cons_self ..)
    unfold usesK at ih ⊢
    rw [List.flatMap_cons, List.length_append, usesS_len, List.length_cons, Nat.add_mul, Nat.one_mul]
    omega
def sp_uses (w : World) (tk : Tk) (Pl : List NK) (M : Nat) : Sp := fun vs H Q _ => ∃ (D : Addr) (G : Hp) (kvs : List NE), vs = [.ref D] ∧ TasksAt w G H D kvs tk Pl ∧ (∀ a, H a = none → G a = none) ∧ (∀ e ∈ kvs, ∀ x ∈ aftersF (tk e.1), x ∈ kvs.map (·.1)) ∧
  ∀ U ukvs H', H U = none → Ex H H' → UsAt w H H' U ukvs (usesK tk (kvs.map (·.1))) (kvs.map (·.1)) → Q (.ref U) H'
theorem ok_uses (T : Tp K mg) {tk : Tk} {Pl : List NK} {M : Nat} (DF : DuelF tk Pl M) : FnOk P w K mg base CX0 1 T.a_option_uses T.d_option_uses ["tasks"] (sp_uses w tk Pl M) := by
  refine T.f_option_uses.ok sc_option_uses (fun vs H Q E h => ?_) (fun cdv A outer s H vs Q E hr h => ?_)
  · obtain ⟨D, G, kvs, rfl, _⟩ := h
    rfl
  · obtain ⟨D, G, kvs, rfl, TA, lv, cl, q⟩ := h
    have hu64 := hu64_of hr
    have kl : kvs.length ≤ Pl.length := by
      have := nodupN_sub _ Pl TA.nd fun x hx => by
        obtain ⟨e, he, rfl⟩ := List.mem_map.mp hx
        exact (TA.st e he).1
      rwa [List.length_map] at this
    have kp2 := DF.pl
    have bound : ∀ i, (usesK tk ((kvs.take i).map (·.1))).length ≤ 90000 := fun i => by
      have h1 := usesK_len (tk := tk) (M := M) (keys := (kvs.take i).map (·.1)) fun k hk => by
        obtain ⟨e, he, rfl⟩ := List.mem_map.mp hk
        exact DF.am _ (TA.st e (List.mem_of_mem_take he)).1
      rw [List.length_map, List.length_take] at h1
      have h2 : min i kvs.length * M ≤ Pl.length * M := Nat.mul_le_mul_right M (by omega)
      have := DF.pm
      omega
    refine ⟨_, (pss_cons (ps_set (i := 1) sc_option_uses.nd rfl (.inl rfl) (pe_nnew (X := _)))
  (pss_cons (ps_lock (ps_for PassesOwn.never rfl (pi_keysN (pv 0)) (pg_name (i := 2) sc_option_uses.nd rfl (.inl rfl))
  (pss_one (ps_nput hu64 (pv 1) (pv 2) (pe_lst pa_nil) rfl))))
  (pss_cons (ps_lock (ps_for PassesOwn.never rfl (pi_keysN (pv 0)) (pg_name (i := 2) sc_option_uses.nd rfl (.inl rfl))
  (pss_one (ps_for PassesOwn.never rfl (pi_enum (by rfl) T.n_enumerate (pa_cons (pe_nget hu64 (pv 0) (pv 2) (fun _ _ => rfl)) pa_nil)) (pg_tup (by rfl) (pgs_cons (pg_name (i := 3) sc_option_uses.nd rfl (.inl rfl)) (pgs_cons (pg_name (i := 4) sc_option_uses.nd rfl (.inl rfl)) pgs_nil)))
  (pss_one (ps_for PassesOwn.never rfl (pi_enum (by rfl) T.n_enumerate (pa_cons (pv 4) pa_nil)) (pg_tup (by rfl) (pgs_cons (pg_name (i := 5) sc_option_uses.nd rfl (.inl rfl)) (pgs_cons (pg_name (i := 6) sc_option_uses.nd rfl (.inl rfl)) pgs_nil)))
  (pss_one (ps_for PassesOwn.never rfl (pi_list (pv 6)) (pg_name (i := 7) sc_option_uses.nd rfl (.inl rfl))
  (pss_one (ps_expr (pe_bm PySem.F.plainAttrs_list PySem.F.slot_list_append PySem.F.type_list_append mt_append (pe_nget hu64 (pv 1) (pv 7) (fun _ _ => rfl)) (pa_cons (pe_tup (pa_cons (pv 2) (pa_cons (pv 3) (pa_cons (pv 5) pa_nil)))) pa_nil))))))))))))
  (pss_one (ps_ret (pv 1)))))), ?_⟩
    walk_at "g"
    refine nnew_go fun U H1 nU e1 hU => ?_
    walk_at "g"
    have hD1 := e1 _ _ TA.d
    have nUD : U ≠ D := fun z => by rw [z, TA.d] at nU; cases nU
    refine lock_go hD1 trivial fun od => ?_
    have hU1 : (upd H1 D (.frz od (dN w D kvs))) U = some (dN w U []) := by rw [upd_ne nUD]; exact hU
    refine fk_go (d := D) (o := od) (kvs := kvs) (fun i σ' Ha => ∃ y2 y3 y4 y5 y6 y7 ukvs, σ' = [some (.ref D), some (.ref U), y2, y3, y4, y5, y6, y7] ∧ Ha D = some (.frz od (dN w D kvs)) ∧ Ch D H Ha ∧ UsAt w H Ha U ukvs [] ((kvs.take i).map (·.1)))
      (fun R r => r_var rfl r) upd_same ⟨_, _, _, _, _, _, [], rfl, upd_same, fun b o nb hb => by rw [upd_ne nb]; exact e1 _ _ hb, UsAt.nil hU1⟩ (fun i σ' Ha _ p => by obtain ⟨_, _, _, _, _, _, _, _, z, _⟩ := p; exact z) ?_ ?_
    · rintro i k b v σ' Ha hk ⟨y2, y3, y4, y5, y6, y7, ukvs, rfl, hDa, cA, UA⟩
      have he := List.mem_of_getElem? hk
      have kH := KeepL.ch (G := G) TA.d (fun _ z => by cases z) (fun _ z => by cases z) cA
      obtain ⟨kd, kn⟩ := TA.ko _ he
      refine gname1 ?_
      refine r_nput' ?_
      walk_at "g"
      refine lst_go fun L H2 nL e2 hL => ?_
      walk_at "g"
      have UA2 := UA.ex e2
      have step : kvs.take (i + 1) = kvs.take i ++ [(k, b, v)] := by rw [List.take_add_one, hk]; rfl
      have nk : k ∉ (kvs.take i).map (·.1) := fun z => by
        have nd := TA.nd
        rw [← List.take_append_drop (i + 1) kvs, List.map_append, step, List.map_append, List.nodup_append, List.nodup_append] at nd
        exact nd.1.2.2 k z k (List.mem_singleton_self _) rfl
      have ev : valN ukvs k = none := valN_none.mpr (by rw [UA.ks]; exact nk)
      have ul : ukvs.length ≤ kvs.length := by
        have := congrArg List.length UA.ks
        rw [List.length_map, List.length_map, List.length_take] at this
        omega
      refine ⟨U, upd H2 U (dN w U (putN ukvs k b (.ref L))), rfl, ⟨ukvs, k, b, UA2.u, UA2.ko, rfl, kd, (kn.tx kH.t).tx (ex_txn e2), sz_lt (by omega), rfl⟩, ?_⟩
      walk_at "g"
      rw [putN_new ev]
      have nLH : H L = none := by
        cases z : H L with
        | none => rfl
        | some o =>
          by_cases y : L = D
          · rw [y, hDa] at nL
            cases nL
          · rw [cA _ _ y z] at nL
            cases nL
      refine ⟨_, _, _, _, _, _, ukvs ++ [(k, b, .ref L)], rfl, by rw [upd_ne (Ne.symm nUD)]; exact e2 _ _ hDa, chu_up (chu_ex cA e2) nU, ?_⟩
      rw [step, List.map_append]
      refine UA2.grow nk kd ((kn.tx kH.t).tx (ex_txn e2)) hL nLH fun e he2 z => ?_
      obtain ⟨L1, us1, a, _, c, _⟩ := UA.at_ e he2
      rw [z] at a
      cases a
      rw [c] at nL
      cases nL
    · rintro σ' Ha ⟨y2, y3, y4, y5, y6, y7, ukvs, rfl, hDa, cA, UA⟩
      rw [List.take_length] at UA
      refine ⟨hDa, ?_⟩
      walk_at "g"
      have hDa2 : (upd Ha D (dN w D kvs)) D = some (dN w D kvs) := upd_same
      have kU : KeepL H Ha (upd Ha D (dN w D kvs)) := KeepL.at_ hDa (fun _ z => by cases z) (.inl (fun _ z => by cases z))
      have UB : UsAt w H (upd Ha D (dN w D kvs)) U ukvs [] (kvs.map (·.1)) := UA.kp kU (upd_ne nUD)
      have eB : Ex H (upd Ha D (dN w D kvs)) := unlk TA.d cA
      generalize (upd Ha D (dN w D kvs)) = Hb at hDa2 UB eB
      refine lock_go hDa2 trivial fun od2 => ?_
      have kU2 : KeepL H Hb (upd Hb D (.frz od2 (dN w D kvs))) := KeepL.at_ hDa2 (fun _ z => by cases z) (.inl (fun _ z => by cases z))
      refine fk_go (d := D) (o := od2) (kvs := kvs) (fun i σ' Hc => ∃ y2 y3 y4 y5 y6 y7, σ' = [some (.ref D), some (.ref U), y2, y3, y4, y5, y6, y7] ∧ Hc D = some (.frz od2 (dN w D kvs)) ∧ Ch D H Hc ∧ UsAt w H Hc U ukvs (usesK tk ((kvs.take i).map (·.1))) (kvs.map (·.1)))
        (fun R r => r_var rfl r) upd_same ⟨_, _, _, _, _, _, rfl, upd_same, fun b o nb hb => by rw [upd_ne nb]; exact eB _ _ hb, by rw [List.take_zero]; exact UB.kp kU2 (upd_ne nUD)⟩ (fun i σ' Hc _ p => by obtain ⟨_, _, _, _, _, _, _, z, _⟩ := p; exact z) ?_ ?_
      · rintro i k b v σ' Hc hk ⟨y2, y3, y4, y5, y6, y7, rfl, hDc, cC, UC⟩
        have he := List.mem_of_getElem? hk
        have kH := KeepL.ch (G := G) TA.d (fun _ z => by cases z) (fun _ z => by cases z) cC
        obtain ⟨kd, kn⟩ := TA.ko _ he
        obtain ⟨kP, sv⟩ := TA.st _ he
        have step : kvs.take (i + 1) = kvs.take i ++ [(k, b, v)] := by rw [List.take_add_one, hk]; rfl
        have clk := cl _ he
        replace clk : ∀ x ∈ aftersF (tk k), x ∈ kvs.map (·.1) := clk
        replace sv : SAt G H v (tk k) := sv
        have hu0 : usesK tk ((kvs.take (i + 1)).map (·.1)) = usesK tk ((kvs.take i).map (·.1)) ++ usesS k (tk k) (tk k).length := by
          rw [step, List.map_append]
          exact usesK_snoc tk _ k
        have B0 := bound (i + 1)
        rw [hu0] at B0
        generalize usesK tk ((kvs.take i).map (·.1)) = pre at UC hu0 B0
        obtain ⟨L0, us0, rfl, nL0, hL0, lu0, it0⟩ := sv
        have Lc : ∀ {Hx : Hp}, Ch D H Hx → Hx L0 = some (.lst us0) := fun c => c _ _ (fun z => by rw [z, TA.d] at hL0; cases hL0) hL0
        refine gname1 ?_
        refine fe_go (a := L0) (xs := us0) (fun j σ' Hd => ∃ y3 y4 y5 y6 y7, σ' = [some (.ref D), some (.ref U), some (.ref b), y3, y4, y5, y6, y7] ∧ Hd D = some (.frz od2 (dN w D kvs)) ∧ Ch D H Hd ∧ UsAt w H Hd U ukvs (pre ++ usesS k (tk k) j) (kvs.map (·.1)))
          (fun R r => ?_) (SqL.of (Lc cC)) ⟨_, _, _, _, _, rfl, hDc, cC, by unfold usesS; rw [List.range_zero, List.flatMap_nil, List.append_nil]; exact UC⟩ (fun j σ' Hd _ p => by obtain ⟨_, _, _, _, _, _, _, z, _⟩ := p; exact SqL.of (Lc z)) ?_ ?_
        · refine r_cons ?_
          refine r_nget (r_var rfl (r_var rfl ⟨D, .ref L0, rfl, ⟨kvs, k, b, .inr ⟨_, hDc⟩, TA.ko.tx kH.t, rfl, kd, kn.tx kH.t, (valN_at TA.nd he).symm⟩, ?_⟩))
          exact r
        · rintro j u σ' Hd Tt hu ⟨y3, y4, y5, y6, y7, rfl, hDd, cD, UD⟩ nT
          have jl : j < (tk k).length := by rw [← lu0]; exact (List.getElem?_eq_some_iff.mp hu).1
          obtain ⟨u', hu', tA⟩ := it0 j (tk k)[j] (List.getElem?_eq_getElem jl)
          rw [hu] at hu'
          cases hu'
          have tS : (tk k).getD j [] = (tk k)[j] := by rw [List.getD_eq_getElem?_getD, List.getElem?_eq_getElem jl]; rfl
          have hu1 : pre ++ usesS k (tk k) (j + 1) = (pre ++ usesS k (tk k) j) ++ usesT k j (tk k)[j] (tk k)[j].length := by
            rw [usesS_snoc, tS, List.append_assoc]
          have B1 : (pre ++ usesS k (tk k) (j + 1)).length ≤ 90000 := by
            have : (usesS k (tk k) (j + 1)).length ≤ (usesS k (tk k) (tk k).length).length := range_le _ (by omega)
            rw [List.length_append] at B0 ⊢
            omega
          rw [hu1] at B1
          have aft : ∀ o ∈ (tk k)[j], ∀ x ∈ o, x ∈ kvs.map (·.1) := fun o ho x hx => clk x (mem_afters.mpr ⟨_, List.getElem_mem jl, o, ho, hx⟩)
          generalize pre ++ usesS k (tk k) j = pre1 at UD hu1 B1
          generalize (tk k)[j] = t at tA hu1 aft B1
          obtain ⟨L1, us1, rfl, nL1, hL1, lu1, it1⟩ := tA
          have eT : Ex Hd (upd Hd Tt (.tup [.int (j : Int), .ref L1])) := Ex.new nT
          have hT : (upd Hd Tt (.tup [.int (j : Int), .ref L1])) Tt = some (.tup [.int (j : Int), .ref L1]) := upd_same
          have hDe := eT _ _ hDd
          have cE := chu_ex cD eT
          have UE := UD.ex eT
          generalize (upd Hd Tt (.tup [.int (j : Int), .ref L1])) = He at hT hDe cE UE
          refine gtup2 hT (gnames2 ?_)
          have Lc1 : ∀ {Hx : Hp}, Ch D H Hx → Hx L1 = some (.lst us1) := fun c => c _ _ (fun z => by rw [z, TA.d] at hL1; cases hL1) hL1
          refine fe_go (a := L1) (xs := us1) (fun m σ' Hf => ∃ y5 y6 y7, σ' = [some (.ref D), some (.ref U), some (.ref b), some (.int (j : Int)), some (.ref L1), y5, y6, y7] ∧ Hf D = some (.frz od2 (dN w D kvs)) ∧ Ch D H Hf ∧ UsAt w H Hf U ukvs (pre1 ++ usesT k j t m) (kvs.map (·.1)))
            (fun R r => r_cons (r_var rfl r)) (SqL.of (Lc1 cE)) ⟨_, _, _, rfl, hDe, cE, by unfold usesT; rw [List.range_zero, List.flatMap_nil, List.append_nil]; exact UE⟩ (fun m σ' Hf _ p => by obtain ⟨_, _, _, _, _, z, _⟩ := p; exact SqL.of (Lc1 z)) ?_ ?_
          · rintro m u2 σ' Hf Tt2 hu2 ⟨y5, y6, y7, rfl, hDf, cF, UF⟩ nT2
            have ml : m < t.length := by rw [← lu1]; exact (List.getElem?_eq_some_iff.mp hu2).1
            obtain ⟨u', hu', oA⟩ := it1 m t[m] (List.getElem?_eq_getElem ml)
            rw [hu2] at hu'
            cases hu'
            have tS2 : t.getD m [] = t[m] := by rw [List.getD_eq_getElem?_getD, List.getElem?_eq_getElem ml]; rfl
            have hu3 : pre1 ++ usesT k j t (m + 1) = (pre1 ++ usesT k j t m) ++ usesO k j m t[m] := by
              rw [usesT_snoc, tS2, List.append_assoc]
            have aft2 := aft _ (List.getElem_mem ml)
            have B2 : (pre1 ++ usesT k j t (m + 1)).length ≤ 90000 := by
              have : (usesT k j t (m + 1)).length ≤ (usesT k j t t.length).length := range_le _ (by omega)
              rw [List.length_append] at B1 ⊢
              omega
            rw [hu3] at B2
            generalize pre1 ++ usesT k j t m = pre2 at UF hu3 B2
            generalize t[m] = o at oA hu3 aft2 B2
            obtain ⟨L2', us2, rfl, nL2, hL2, na2⟩ := oA
            have lu2 := na2.len
            have eT2 : Ex Hf (upd Hf Tt2 (.tup [.int (m : Int), .ref L2'])) := Ex.new nT2
            have hT2 : (upd Hf Tt2 (.tup [.int (m : Int), .ref L2'])) Tt2 = some (.tup [.int (m : Int), .ref L2']) := upd_same
            have hDg := eT2 _ _ hDf
            have cG := chu_ex cF eT2
            have UG := UF.ex eT2
            generalize (upd Hf Tt2 (.tup [.int (m : Int), .ref L2'])) = Hg at hT2 hDg cG UG
            refine gtup2 hT2 (gnames2 ?_)
            have Lc2 : ∀ {Hx : Hp}, Ch D H Hx → Hx L2' = some (.lst us2) := fun c => c _ _ (fun z => by rw [z, TA.d] at hL2; cases hL2) hL2
            walk_at "g"
            refine ll_go (SqL.of (Lc2 cG)) (fun n σ' Hh => ∃ y7, σ' = [some (.ref D), some (.ref U), some (.ref b), some (.int (j : Int)), some (.ref L1), some (.int (m : Int)), some (.ref L2'), y7] ∧ Hh D = some (.frz od2 (dN w D kvs)) ∧ Ch D H Hh ∧ UsAt w H Hh U ukvs (pre2 ++ usesO k j m (o.take n)) (kvs.map (·.1)))
              ⟨_, rfl, hDg, cG, by rw [List.take_zero]; unfold usesO; rw [List.map_nil, List.append_nil]; exact UG⟩ (fun n σ' Hh _ p => by obtain ⟨_, _, _, z, _⟩ := p; exact SqL.of (Lc2 z)) ?_ ?_
            · rintro n x σ' Hh hx ⟨y7, rfl, hDh, cH, UH⟩
              obtain ⟨kk, hkk, nk⟩ := na2.get hx
              have kA := KeepL.ch (G := G) TA.d (fun _ z => by cases z) (fun _ z => by cases z) cH
              have hin := aft2 kk (List.mem_of_getElem? hkk)
              rw [usesO_take hkk, ← List.append_assoc]
              have B3 : (pre2 ++ usesO k j m (o.take n)).length ≤ 90000 := by
                unfold usesO at B2 ⊢
                rw [List.length_append, List.length_map] at B2 ⊢
                rw [List.length_take]
                omega
              generalize pre2 ++ usesO k j m (o.take n) = pre3 at UH B3
              rw [← UH.ks] at hin
              obtain ⟨e, hme, rfl⟩ := List.mem_map.mp hin
              obtain ⟨ek, eb, ev⟩ := e
              obtain ⟨L, us, eL, nL, hL, naL⟩ := UH.at_ _ hme
              replace eL : ev = V.ref L := eL
              subst eL
              have nkh := nk.tx kA.t
              have dpk := (UH.ko _ hme).1
              obtain ⟨xb, xx, rfl, _, _⟩ : ∃ xb xx, x = V.ref xb ∧ Hh xb = some (.tup xx) ∧ True := by
                have hk2 := DF.dp ek (by
                  obtain ⟨e2, he2, q2⟩ := List.mem_map.mp (show ek ∈ kvs.map (·.1) by rw [← UH.ks]; exact List.mem_map.mpr ⟨_, hme, rfl⟩)
                  rw [← q2]
                  exact (TA.st e2 he2).1)
                obtain ⟨_, ⟨ks, rfl⟩, _⟩ := hk2
                obtain ⟨a, b, c, d, _⟩ := nkh.tupOf
                exact ⟨a, b, c, d, True.intro⟩
              refine gname1 ?_
              walk_at "g"
              refine r_bm (r_nget (r_var rfl (r_var rfl ⟨U, .ref L, rfl, ⟨ukvs, ek, xb, .inl UH.u, UH.ko, rfl, dpk, nkh, (valN_at UH.nd hme).symm⟩, .inl ⟨rfl, _, SqL.of hL⟩, ?_⟩)))
              walk_at "g"
              refine tup_go (ks := [k, .int (j : Int), .int (m : Int)]) (.cons (kn.tx (KeepL.ch (G := G) TA.d (fun _ z => by cases z) (fun _ z => by cases z) cH).t) (.cons (.int _) (.cons (.int _) .nil))) fun pu Hi nI eI aI _ => ?_
              have hLi := eI _ _ hL
              have lL := naL.len
              have l3 : (ofP pre3 ek).length ≤ pre3.length := by
                unfold ofP
                rw [List.length_map]
                exact List.length_filter_le _ _
              replace lL : us.length = (ofP pre3 ek).length := lL
              walk_at "g"
              refine app_l hLi (sz_lt (by omega)) ?_
              · walk_at "g"
                have UI := (UH.ex eI).push hme hLi (naL.tx (ex_txn eI)) aI
                have nLD : D ≠ L := fun z => by rw [z] at hDh; rw [hL] at hDh; cases hDh
                refine ⟨_, rfl, by rw [upd_ne nLD]; exact eI _ _ hDh, chu_up (chu_ex cH eI) nL, UI⟩
            · rintro σ' Hh ⟨y7, rfl, hDh, cH, UH⟩
              rw [lu2, List.take_length, ← hu3] at UH
              exact ⟨_, _, _, rfl, hDh, cH, UH⟩
          · rintro σ' Hf ⟨y5, y6, y7, rfl, hDf, cF, UF⟩
            rw [lu1, ← hu1] at UF
            exact ⟨_, _, _, _, _, rfl, hDf, cF, UF⟩
        · rintro σ' Hd ⟨y3, y4, y5, y6, y7, rfl, hDd, cD, UD⟩
          rw [lu0, ← hu0] at UD
          exact ⟨_, _, _, _, _, _, rfl, hDd, cD, UD⟩
      · rintro σ' Hc ⟨y2, y3, y4, y5, y6, y7, rfl, hDc, cC, UC⟩
        rw [List.take_length] at UC
        refine ⟨hDc, ?_⟩
        walk_at "g"
        exact q U ukvs _ nU (unlk TA.d cC) (UC.kp (KeepL.at_ hDc (fun _ z => by cases z) (.inl (fun _ z => by cases z))) (upd_ne nUD))
end

end K12

set_option Elab.async false
set_option linter.all false
set_option maxRecDepth 100000
set_option maxHeartbeats 2000000
namespace K12
open PySem PySem.Spec PyProof.Rows L2 Evl AE
local macro_rules | `(tactic| walk_at "c") => `(tactic| first | exact ⟨by decide, by decide⟩ | exact .inr ⟨by decide, by decide⟩ | exact .inl ⟨by decide, by decide⟩ | exact ⟨by decide, by decide, by decide⟩ | (show (0 : Int) < _; decide))
local macro_rules | `(tactic| walk_at "s") => `(tactic| first
  | (with_reducible refine r_var rfl ?_) | (with_reducible refine r_c ?_) | (with_reducible refine r_op ?_) | (with_reducible refine r_un ?_) | (with_reducible refine r_I0 ?_) | (with_reducible refine r_U ?_)
  | (with_reducible refine r_eq rfl ?_) | (with_reducible refine r_ne rfl ?_) | (with_reducible refine r_chain ?_) | (with_reducible refine r_test ?_) | (with_reducible refine r_tB ?_)
  | (with_reducible refine r_bl ?_) | (with_reducible refine r_and ?_) | (with_reducible refine r_or ?_) | (with_reducible refine r_not ?_) | (with_reducible refine r_nil ?_) | (with_reducible refine r_cons ?_)
  | (with_reducible refine r_tupK ?_) | (with_reducible refine r_lstK ?_) | (with_reducible refine r_cb ?_) | (with_reducible refine r_revL ?_) | (with_reducible refine r_ost ?_) | (with_reducible refine r_mkO ?_) | (with_reducible refine r_makeK ?_) | (with_reducible refine r_make ?_) | (with_reducible refine r_setdN ?_) | (with_reducible refine r_nget2 ?_) | (with_reducible refine r_nnew ?_) | (with_reducible refine r_call ?_) | (with_reducible refine r_seq ?_) | (with_reducible refine r_set ?_)
  | (with_reducible refine r_drop ?_) | (with_reducible refine r_ret ?_) | (with_reducible refine r_next ?_) | (with_reducible refine r_if ?_) | (with_reducible refine r_sl ?_) | (with_reducible refine r_nop ?_) | (with_reducible refine r_prt ?_) | (with_reducible refine r_some ?_)
  | (with_reducible refine add_int ?_) | (with_reducible refine int_i ?_) | (with_reducible refine r_forR1 ?_) | (with_reducible refine r_forR2 ?_) | (with_reducible refine r_meth ?_) | (with_reducible refine r_makeS ?_) | (with_reducible refine r_opS ?_) | (with_reducible refine r_makeRS ?_) | (with_reducible refine r_methH ?_) | (with_reducible refine r_callS ?_) | (with_reducible refine r_forL ?_) | (with_reducible refine r_andV ?_) | (with_reducible refine r_orV ?_) | (with_reducible refine r_notV ?_) | (with_reducible refine r_ifE ?_) | (with_reducible refine r_lcL ?_) | (with_reducible refine r_fld ?_) | (with_reducible refine r_get ?_) | (with_reducible refine r_din ?_) | (with_reducible refine r_dget2 ?_) | ((with_reducible refine r_I ?_ ?_); (walk_at "c")))
local macro_rules | `(tactic| walk_at "g") => `(tactic| repeat walk_at "s")
section
variable {P : Program} {w : World} {K : PySem.W.Frag} {mg : Str → Option Value} {base : Heap}
/-! ### who loses -/
inductive Lose (tk : Tk) : NK → Prop
  | mk (k : NK) (t : List (List NK)) (f : List NK → NK) (ht : t ∈ tk k) (hf : ∀ o ∈ t, f o ∈ o) (h : ∀ o ∈ t, Lose tk (f o)) : Lose tk k
theorem Lose.of {tk : Tk} {k : NK} {t : List (List NK)} (ht : t ∈ tk k) (h : ∀ o ∈ t, ∃ x ∈ o, Lose tk x) : Lose tk k := by
  classical
  refine .mk k t (fun o => if z : ∃ x ∈ o, Lose tk x then Classical.choose z else .non) ht (fun o ho => ?_) fun o ho => ?_
  · rw [dif_pos (h o ho)]
    exact (Classical.choose_spec (h o ho)).1
  · rw [dif_pos (h o ho)]
    exact (Classical.choose_spec (h o ho)).2
/-- what is closed under losing has all that lose -/
theorem Lose.sub {tk : Tk} {keys B : List NK} (cl : ∀ k ∈ keys, ∀ x ∈ aftersF (tk k), x ∈ keys) (h : ∀ k ∈ keys, ∀ t ∈ tk k, (∀ o ∈ t, ∃ x ∈ o, x ∈ B) → k ∈ B) {k : NK} (l : Lose tk k) : k ∈ keys → k ∈ B := by
  induction l with
  | mk k t f ht hf hl ih =>
    intro hk
    exact h k hk t ht fun o ho => ⟨f o, hf o ho, ih o ho (cl k hk _ (mem_afters.mpr ⟨t, ht, o, ho, hf o ho⟩))⟩
/-! ### [] in tasks -/
def oD (o : List NK) : PyData := .list (toDs o)
def tD (t : List (List NK)) : PyData := .list (t.map oD)
theorem dpall_of {H : Hp} {α : Type} (f : α → PyData) : ∀ {us : List V} {xs : List α}, us.length = xs.length → (∀ (i : Nat) (x : α), xs[i]? = some x → ∃ u, us[i]? = some u ∧ Dp K H u (f x)) → DpAll K H us (xs.map f)
  | [], [], _, _ => .nil
  | [], _ :: _, h, _ => nomatch h
  | _ :: _, [], h, _ => nomatch h
  | u :: us, x :: xs, l, h => by
    obtain ⟨u', e, d⟩ := h 0 x rfl
    cases e
    exact .cons d (dpall_of f (Nat.succ.inj l) fun i y hy => h (i + 1) y hy)
theorem oat_dp {G H : Hp} {v : V} {o : List NK} (h : OAt G H v o) : Dp K H v (oD o) := by
  obtain ⟨L, us, rfl, _, hL, na⟩ := h
  exact .lst (SqL.of hL) (nats_dp na)
theorem tat_dp {G H : Hp} {v : V} {t : List (List NK)} (h : TAt G H v t) : Dp K H v (tD t) := by
  obtain ⟨L, us, rfl, _, hL, l, it⟩ := h
  exact .lst (SqL.of hL) (dpall_of oD l fun i x hx => by
    obtain ⟨u, a, b⟩ := it i x hx
    exact ⟨u, a, oat_dp b⟩)
theorem sat_dp {G H : Hp} {v : V} {s : List (List (List NK))} (h : SAt G H v s) : Dp K H v (.list (s.map tD)) := by
  obtain ⟨L, us, rfl, _, hL, l, it⟩ := h
  exact .lst (SqL.of hL) (dpall_of tD l fun i x hx => by
    obtain ⟨u, a, b⟩ := it i x hx
    exact ⟨u, a, tat_dp b⟩)
theorem lay_map {α : Type} (f : α → PyData) : ∀ {xs : List α}, (∀ x ∈ xs, (f x).canLay0 = true) → PyData.canLayAll0 (xs.map f) = true
  | [], _ => rfl
  | x :: xs, h => by
    rw [List.map_cons, PyData.canLayAll0, h x (List.mem_cons_self ..), lay_map f fun y hy => h y (List.mem_cons_of_mem _ hy)]
    rfl
theorem dep_map {α : Type} (f : α → PyData) {n : Nat} : ∀ {xs : List α}, (∀ x ∈ xs, (f x).depth ≤ n) → PyData.depthAll (xs.map f) ≤ n
  | [], _ => Nat.zero_le _
  | x :: xs, h => by
    rw [List.map_cons, PyData.depthAll]
    exact Nat.max_le.mpr ⟨h x (List.mem_cons_self ..), dep_map f fun y hy => h y (List.mem_cons_of_mem _ hy)⟩
theorem tasks_shaped {s : List (List (List NK))} (h : ∀ x ∈ aftersF s, x.depth ≤ 5 ∧ okN x = true) : SeqAt.shaped (.list (s.map tD)) = true := by
  have h2 : ∀ t ∈ s, ∀ o ∈ t, ∀ x ∈ o, x.depth ≤ 5 ∧ okN x = true := fun t ht o ho x hx => h x (mem_afters.mpr ⟨t, ht, o, ho, hx⟩)
  have lay : PyData.canLay0 (.list (s.map tD)) = true := by
    rw [PyData.canLay0]
    refine lay_map tD fun t ht => ?_
    unfold tD
    rw [PyData.canLay0]
    refine lay_map oD fun o ho => ?_
    unfold oD
    rw [PyData.canLay0]
    refine toDs_lay o ?_
    rw [okNs_all, List.all_eq_true]
    exact fun x hx => (h2 t ht o ho x hx).2
  have dep : PyData.depth (.list (s.map tD)) ≤ 64 := by
    rw [PyData.depth]
    have : PyData.depthAll (s.map tD) ≤ 20 := dep_map tD fun t ht => by
      unfold tD
      rw [PyData.depth]
      have : PyData.depthAll (t.map oD) ≤ 10 := dep_map oD fun o ho => by
        unfold oD
        rw [PyData.depth, toDs_depth]
        have : NK.depths o ≤ 5 := depths_le fun x hx => (h2 t ht o ho x hx).1
        omega
      omega
    omega
  simp [SeqAt.shaped, lay, dep]
theorem any_nil (s : List (List (List NK))) : ((s.map tD).any fun z => PyData.eqv z (.list [])) = decide ([] ∈ s) := by
  induction s with
  | nil => rfl
  | cons t s ih =>
    rw [List.map_cons, List.any_cons, ih]
    cases t with
    | nil => simp [tD, PyData.eqv, PyData.eqvAll]
    | cons o t => simp [tD, PyData.eqv, PyData.eqvAll]
theorem nil_shaped : SeqAt.shaped (.list []) = true := by decide +kernel
/-! ### how many options are left -/
def lkey (k : NK) (i : Nat) : NK := .tup [k, .int (i : Int)]
theorem lkey_inj {k k' : NK} {i i' : Nat} (h : lkey k i = lkey k' i') : k = k' ∧ i = i' := by
  unfold lkey at h
  simp only [NK.tup.injEq, List.cons.injEq, NK.int.injEq] at h
  exact ⟨h.1, by have := h.2.1; omega⟩
theorem useN_inj {k k' : NK} {i i' j j' : Nat} (h : useN k i j = useN k' i' j') : k = k' ∧ i = i' ∧ j = j' := by
  unfold useN at h
  simp only [NK.tup.injEq, List.cons.injEq, NK.int.injEq] at h
  exact ⟨h.1, by have := h.2.1; omega, by have := h.2.2.1; omega⟩
def cnt (Fd : List NK) (k : NK) (i n : Nat) : Nat := (List.range n).countP fun j => decide (useN k i j ∉ Fd)
theorem cnt_nil (k : NK) (i n : Nat) : cnt [] k i n = n := by
  unfold cnt
  have e : (List.range n).countP (fun j => decide (useN k i j ∉ ([] : List NK))) = (List.range n).length := List.countP_eq_length.mpr fun j _ => by simp
  rw [e, List.length_range]
theorem cnt_zero {Fd : List NK} {k : NK} {i n : Nat} : cnt Fd k i n = 0 ↔ ∀ j < n, useN k i j ∈ Fd := by
  unfold cnt
  rw [List.countP_eq_zero]
  constructor
  · intro h j hj
    exact Decidable.of_not_not fun z => h j (List.mem_range.mpr hj) (decide_eq_true z)
  · intro h j hj z
    exact of_decide_eq_true z (h j (List.mem_range.mp hj))
theorem cnt_other {Fd : List NK} {k k' : NK} {i i' j n : Nat} (h : ¬ (k = k' ∧ i = i')) : cnt (Fd ++ [useN k i j]) k' i' n = cnt Fd k' i' n := by
  unfold cnt
  refine List.countP_congr fun m _ => ?_
  have ne : useN k' i' m ≠ useN k i j := fun z => h ⟨(useN_inj z).1.symm, (useN_inj z).2.1.symm⟩
  simp [ne]
theorem cnt_same {Fd : List NK} {k : NK} {i j : Nat} : ∀ {n : Nat}, j < n → useN k i j ∉ Fd → cnt (Fd ++ [useN k i j]) k i n + 1 = cnt Fd k i n
  | 0, h, _ => absurd h (Nat.not_lt_zero _)
  | n + 1, h, nf => by
    unfold cnt
    rw [List.range_succ, List.countP_append, List.countP_append, List.countP_singleton, List.countP_singleton]
    by_cases z : j = n
    · subst z
      have e : (List.range j).countP (fun m => decide (useN k i m ∉ Fd ++ [useN k i j])) = (List.range j).countP (fun m => decide (useN k i m ∉ Fd)) := by
        refine List.countP_congr fun m hm => ?_
        have ne : useN k i m ≠ useN k i j := fun q => by
          have := (useN_inj q).2.2
          have := List.mem_range.mp hm
          omega
        simp [ne]
      rw [e, if_neg (by simp), if_pos (decide_eq_true nf)]
    · have ih := cnt_same (n := n) (by omega) nf
      unfold cnt at ih
      have ne : useN k i n ≠ useN k i j := fun q => z (useN_inj q).2.2.symm
      have e : decide (useN k i n ∉ Fd ++ [useN k i j]) = decide (useN k i n ∉ Fd) := by simp [ne]
      rw [e]
      omega
end

end K12

set_option Elab.async false
set_option linter.all false
set_option maxRecDepth 100000
set_option maxHeartbeats 2000000
namespace K12
open PySem PySem.Spec PyProof.Rows L2 Evl AE
local macro_rules | `(tactic| walk_at "c") => `(tactic| first | exact ⟨by decide, by decide⟩ | exact .inr ⟨by decide, by decide⟩ | exact .inl ⟨by decide, by decide⟩ | exact ⟨by decide, by decide, by decide⟩ | (show (0 : Int) < _; decide))
local macro_rules | `(tactic| walk_at "s") => `(tactic| first
  | (with_reducible refine r_var rfl ?_) | (with_reducible refine r_c ?_) | (with_reducible refine r_op ?_) | (with_reducible refine r_un ?_) | (with_reducible refine r_I0 ?_) | (with_reducible refine r_U ?_)
  | (with_reducible refine r_eq rfl ?_) | (with_reducible refine r_ne rfl ?_) | (with_reducible refine r_chain ?_) | (with_reducible refine r_test ?_) | (with_reducible refine r_tB ?_)
  | (with_reducible refine r_bl ?_) | (with_reducible refine r_and ?_) | (with_reducible refine r_or ?_) | (with_reducible refine r_not ?_) | (with_reducible refine r_nil ?_) | (with_reducible refine r_cons ?_)
  | (with_reducible refine r_tupK ?_) | (with_reducible refine r_lstK ?_) | (with_reducible refine r_cb ?_) | (with_reducible refine r_revL ?_) | (with_reducible refine r_ost ?_) | (with_reducible refine r_mkO ?_) | (with_reducible refine r_makeK ?_) | (with_reducible refine r_make ?_) | (with_reducible refine r_setdN ?_) | (with_reducible refine r_nget2 ?_) | (with_reducible refine r_nnew ?_) | (with_reducible refine r_call ?_) | (with_reducible refine r_seq ?_) | (with_reducible refine r_set ?_)
  | (with_reducible refine r_drop ?_) | (with_reducible refine r_ret ?_) | (with_reducible refine r_next ?_) | (with_reducible refine r_if ?_) | (with_reducible refine r_sl ?_) | (with_reducible refine r_nop ?_) | (with_reducible refine r_prt ?_) | (with_reducible refine r_some ?_)
  | (with_reducible refine add_int ?_) | (with_reducible refine int_i ?_) | (with_reducible refine r_forR1 ?_) | (with_reducible refine r_forR2 ?_) | (with_reducible refine r_meth ?_) | (with_reducible refine r_makeS ?_) | (with_reducible refine r_opS ?_) | (with_reducible refine r_makeRS ?_) | (with_reducible refine r_methH ?_) | (with_reducible refine r_callS ?_) | (with_reducible refine r_forL ?_) | (with_reducible refine r_andV ?_) | (with_reducible refine r_orV ?_) | (with_reducible refine r_notV ?_) | (with_reducible refine r_ifE ?_) | (with_reducible refine r_lcL ?_) | (with_reducible refine r_fld ?_) | (with_reducible refine r_get ?_) | (with_reducible refine r_din ?_) | (with_reducible refine r_dget2 ?_) | ((with_reducible refine r_I ?_ ?_); (walk_at "c")))
local macro_rules | `(tactic| walk_at "g") => `(tactic| repeat walk_at "s")
section
variable {P : Program} {w : World} {K : PySem.W.Frag} {mg : Str → Option Value} {base : Heap}
/-! ### beaten places: what stays true -/
structure BInv (tk : Tk) (keys Bt Wt Fd : List NK) (ex : NK → Prop) : Prop where
  bt : ∀ k ∈ Bt, k ∈ keys ∧ Lose tk k
  bn : Bt.Nodup
  ws : ∀ k ∈ Wt, k ∈ Bt
  wn : Wt.Nodup
  fd : ∀ f ∈ Fd, ∃ (k : NK) (i j : Nat) (t : List (List NK)) (o : List NK) (x : NK), f = useN k i j ∧ k ∈ keys ∧ (tk k)[i]? = some t ∧ t[j]? = some o ∧ x ∈ o ∧ x ∈ Bt
  fn : Fd.Nodup
  dn : ∀ b ∈ Bt, b ∉ Wt → ¬ ex b → ∀ f ∈ ofP (usesK tk keys) b, f ∈ Fd
  zr : ∀ k ∈ keys, ∀ (i : Nat) (t : List (List NK)), (tk k)[i]? = some t → cnt Fd k i t.length = 0 → k ∈ Bt
theorem nodup_snoc {α : Type} {l : List α} {x : α} (h : l.Nodup) (n : x ∉ l) : (l ++ [x]).Nodup := by
  rw [List.nodup_append]
  exact ⟨h, List.nodup_cons.mpr ⟨List.not_mem_nil, List.nodup_nil⟩, fun a ha c hc z => n (by rw [← List.mem_singleton.mp hc, ← z]; exact ha)⟩
theorem BInv.fl {tk : Tk} {keys Bt Wt Fd : List NK} {ex : NK → Prop} (h : BInv tk keys Bt Wt Fd ex) : Fd.length ≤ (usesK tk keys).length := by
  have := nodupN_sub Fd ((usesK tk keys).map (·.2)) h.fn fun f hf => by
    obtain ⟨k, i, j, t, o, x, rfl, hk, ht, ho, hx, _⟩ := h.fd f hf
    exact List.mem_map.mpr ⟨(x, useN k i j), mem_usesK.mpr ⟨k, hk, i, j, t, o, ht, ho, hx, rfl⟩, rfl⟩
  rwa [List.length_map] at this
theorem BInv.bl {tk : Tk} {keys Bt Wt Fd : List NK} {ex : NK → Prop} (h : BInv tk keys Bt Wt Fd ex) : Bt.length ≤ keys.length := nodupN_sub _ _ h.bn fun k hk => (h.bt k hk).1
theorem BInv.wl {tk : Tk} {keys Bt Wt Fd : List NK} {ex : NK → Prop} (h : BInv tk keys Bt Wt Fd ex) : Wt.length ≤ keys.length := Nat.le_trans (nodupN_sub _ _ h.wn h.ws) h.bl
theorem BInv.start {tk : Tk} {keys : List NK} (nd : keys.Nodup) : BInv tk keys (keys.filter fun k => decide ([] ∈ tk k)) (keys.filter fun k => decide ([] ∈ tk k)) [] (fun _ => False) where
  bt := fun k hk => by
    obtain ⟨h1, h2⟩ := List.mem_filter.mp hk
    exact ⟨h1, Lose.of (of_decide_eq_true h2) fun o ho => nomatch ho⟩
  bn := nd.filter _
  ws := fun _ h => h
  wn := nd.filter _
  fd := fun _ h => nomatch h
  fn := List.nodup_nil
  dn := fun b h n _ => absurd h n
  zr := fun k hk i t ht c => by
    rw [cnt_nil] at c
    refine List.mem_filter.mpr ⟨hk, decide_eq_true ?_⟩
    have := List.mem_of_getElem? ht
    rwa [List.length_eq_zero_iff.mp c] at this
theorem BInv.pop {tk : Tk} {keys Bt Wt Fd : List NK} {x : NK} (h : BInv tk keys Bt (Wt ++ [x]) Fd (fun _ => False)) : BInv tk keys Bt Wt Fd (fun b => b = x) := by
  refine { h with ws := fun k hk => h.ws k (List.mem_append_left _ hk), wn := (List.nodup_append.mp h.wn).1, dn := fun b hb nw ne f hf => h.dn b hb (fun z => ?_) (fun z => z) f hf }
  rcases List.mem_append.mp z with z | z
  · exact nw z
  · exact ne (List.mem_singleton.mp z)
theorem BInv.done {tk : Tk} {keys Bt Wt Fd : List NK} {x : NK} (h : BInv tk keys Bt Wt Fd (fun b => b = x)) (a : ∀ f ∈ ofP (usesK tk keys) x, f ∈ Fd) : BInv tk keys Bt Wt Fd (fun _ => False) := by
  refine { h with dn := fun b hb nw _ f hf => ?_ }
  by_cases z : b = x
  · subst z
    exact a f hf
  · exact h.dn b hb nw z f hf
/-- one use more fails -/
theorem BInv.fail {tk : Tk} {keys Bt Wt Fd : List NK} {x k : NK} {i j : Nat} {t : List (List NK)} {o : List NK} (h : BInv tk keys Bt Wt Fd (fun b => b = x)) (hx : x ∈ Bt) (hk : k ∈ keys) (ht : (tk k)[i]? = some t) (ho : t[j]? = some o) (xo : x ∈ o) (nf : useN k i j ∉ Fd) :
    (cnt (Fd ++ [useN k i j]) k i t.length = 0 → k ∉ Bt → BInv tk keys (Bt ++ [k]) (Wt ++ [k]) (Fd ++ [useN k i j]) (fun b => b = x)) ∧
    (¬ (cnt (Fd ++ [useN k i j]) k i t.length = 0 ∧ k ∉ Bt) → BInv tk keys Bt Wt (Fd ++ [useN k i j]) (fun b => b = x)) := by
  have fn' : (Fd ++ [useN k i j]).Nodup := nodup_snoc h.fn nf
  have fd' : ∀ f ∈ Fd ++ [useN k i j], ∃ (k : NK) (i j : Nat) (t : List (List NK)) (o : List NK) (x : NK), f = useN k i j ∧ k ∈ keys ∧ (tk k)[i]? = some t ∧ t[j]? = some o ∧ x ∈ o ∧ x ∈ Bt := fun f hf => by
    rcases List.mem_append.mp hf with hf | hf
    · exact h.fd f hf
    · exact ⟨k, i, j, t, o, x, List.mem_singleton.mp hf, hk, ht, ho, xo, hx⟩
  have zr' : ∀ k' ∈ keys, ∀ (i' : Nat) (t' : List (List NK)), (tk k')[i']? = some t' → cnt (Fd ++ [useN k i j]) k' i' t'.length = 0 → k' ∈ Bt ∨ (k' = k ∧ i' = i) := fun k' hk' i' t' ht' c => by
    by_cases z : k = k' ∧ i = i'
    · exact .inr ⟨z.1.symm, z.2.symm⟩
    · rw [cnt_other z] at c
      exact .inl (h.zr k' hk' i' t' ht' c)
  refine ⟨fun c nk => ?_, fun c => ?_⟩
  · have lk : Lose tk k := Lose.of (List.mem_of_getElem? ht) fun o' ho' => by
      obtain ⟨j', hj, rfl⟩ := List.getElem_of_mem ho'
      obtain ⟨k1, i1, j1, t1, o1, x1, e, _, ht1, ho1, hx1, hb1⟩ := fd' _ (cnt_zero.mp c j' hj)
      obtain ⟨rfl, rfl, rfl⟩ := useN_inj e
      rw [ht] at ht1
      cases ht1
      rw [List.getElem?_eq_getElem hj] at ho1
      cases ho1
      exact ⟨x1, hx1, (h.bt x1 hb1).2⟩
    refine ⟨fun b hb => ?_, nodup_snoc h.bn nk, fun b hb => ?_, nodup_snoc h.wn fun z => nk (h.ws _ z), fun f hf => ?_, fn', fun b hb nw ne f hf => ?_, fun k' hk' i' t' ht' c' => ?_⟩
    · rcases List.mem_append.mp hb with hb | hb
      · exact h.bt b hb
      · rw [List.mem_singleton.mp hb]
        exact ⟨hk, lk⟩
    · rcases List.mem_append.mp hb with hb | hb
      · exact List.mem_append_left _ (h.ws b hb)
      · exact List.mem_append_right _ hb
    · obtain ⟨k1, i1, j1, t1, o1, x1, a1, a2, a3, a4, a5, a6⟩ := fd' f hf
      exact ⟨k1, i1, j1, t1, o1, x1, a1, a2, a3, a4, a5, List.mem_append_left _ a6⟩
    · rcases List.mem_append.mp hb with hb | hb
      · exact List.mem_append_left _ (h.dn b hb (fun z => nw (List.mem_append_left _ z)) ne f hf)
      · exact absurd (List.mem_append_right _ hb) nw
    · rcases zr' k' hk' i' t' ht' c' with z | z
      · exact List.mem_append_left _ z
      · rw [z.1]
        exact List.mem_append_right _ (List.mem_singleton_self _)
  · refine { h with fd := fd', fn := fn', dn := fun b hb nw ne f hf => List.mem_append_left _ (h.dn b hb nw ne f hf), zr := fun k' hk' i' t' ht' c' => ?_ }
    rcases zr' k' hk' i' t' ht' c' with z | ⟨rfl, rfl⟩
    · exact z
    · rw [ht] at ht'
      cases ht'
      exact Decidable.of_not_not fun y => c ⟨c', y⟩
theorem BInv.fin {tk : Tk} {keys Bt Fd : List NK} (h : BInv tk keys Bt [] Fd (fun _ => False)) (cl : ∀ k ∈ keys, ∀ x ∈ aftersF (tk k), x ∈ keys) {k : NK} (hk : k ∈ keys) (l : Lose tk k) : k ∈ Bt := by
  refine Lose.sub cl (fun k hk t ht a => ?_) l hk
  obtain ⟨i, hi, rfl⟩ := List.getElem_of_mem ht
  refine h.zr k hk i _ (List.getElem?_eq_getElem hi) (cnt_zero.mpr fun j hj => ?_)
  obtain ⟨x, hx, xb⟩ := a _ (List.getElem_mem hj)
  exact h.dn x xb (fun z => nomatch z) (fun z => z) _ (mem_ofP.mpr (mem_usesK.mpr ⟨k, hk, i, j, _, _, List.getElem?_eq_getElem hi, List.getElem?_eq_getElem hj, hx, rfl⟩))
theorem len_old {kvs : List NE} {k : NK} {v v' : V} {b : Addr} (h : valN kvs k = some v) : (putN kvs k b v').length = kvs.length := by
  unfold putN
  rw [h]
  exact List.length_map ..
end

end K12

set_option Elab.async false
set_option linter.all false
set_option maxRecDepth 100000
set_option maxHeartbeats 2000000
namespace K12
open PySem PySem.Spec PyProof.Rows L2 Evl AE
local macro_rules | `(tactic| walk_at "c") => `(tactic| first | exact ⟨by decide, by decide⟩ | exact .inr ⟨by decide, by decide⟩ | exact .inl ⟨by decide, by decide⟩ | exact ⟨by decide, by decide, by decide⟩ | (show (0 : Int) < _; decide))
local macro_rules | `(tactic| walk_at "s") => `(tactic| first
  | (with_reducible refine r_var rfl ?_) | (with_reducible refine r_c ?_) | (with_reducible refine r_op ?_) | (with_reducible refine r_un ?_) | (with_reducible refine r_I0 ?_) | (with_reducible refine r_U ?_)
  | (with_reducible refine r_eq rfl ?_) | (with_reducible refine r_ne rfl ?_) | (with_reducible refine r_chain ?_) | (with_reducible refine r_test ?_) | (with_reducible refine r_tB ?_)
  | (with_reducible refine r_bl ?_) | (with_reducible refine r_and ?_) | (with_reducible refine r_or ?_) | (with_reducible refine r_not ?_) | (with_reducible refine r_nil ?_) | (with_reducible refine r_cons ?_)
  | (with_reducible refine r_tupK ?_) | (with_reducible refine r_lstK ?_) | (with_reducible refine r_cb ?_) | (with_reducible refine r_revL ?_) | (with_reducible refine r_ost ?_) | (with_reducible refine r_mkO ?_) | (with_reducible refine r_makeK ?_) | (with_reducible refine r_make ?_) | (with_reducible refine r_setdN ?_) | (with_reducible refine r_nget2 ?_) | (with_reducible refine r_nnew ?_) | (with_reducible refine r_call ?_) | (with_reducible refine r_seq ?_) | (with_reducible refine r_set ?_)
  | (with_reducible refine r_drop ?_) | (with_reducible refine r_ret ?_) | (with_reducible refine r_next ?_) | (with_reducible refine r_if ?_) | (with_reducible refine r_sl ?_) | (with_reducible refine r_nop ?_) | (with_reducible refine r_prt ?_) | (with_reducible refine r_some ?_)
  | (with_reducible refine add_int ?_) | (with_reducible refine int_i ?_) | (with_reducible refine r_forR1 ?_) | (with_reducible refine r_forR2 ?_) | (with_reducible refine r_meth ?_) | (with_reducible refine r_makeS ?_) | (with_reducible refine r_opS ?_) | (with_reducible refine r_makeRS ?_) | (with_reducible refine r_methH ?_) | (with_reducible refine r_callS ?_) | (with_reducible refine r_forL ?_) | (with_reducible refine r_andV ?_) | (with_reducible refine r_orV ?_) | (with_reducible refine r_notV ?_) | (with_reducible refine r_ifE ?_) | (with_reducible refine r_lcL ?_) | (with_reducible refine r_fld ?_) | (with_reducible refine r_get ?_) | (with_reducible refine r_din ?_) | (with_reducible refine r_dget2 ?_) | ((with_reducible refine r_I ?_ ?_); (walk_at "c")))
local macro_rules | `(tactic| walk_at "g") => `(tactic| repeat walk_at "s")
section
variable {P : Program} {w : World} {K : PySem.W.Frag} {mg : Str → Option Value} {base : Heap}
theorem r_asgT {te : TE} {g : TG} {D : Ends} {σ : L2.St} {H : Hp} (q : te σ H fun x H1 => g x σ H1 fun σ2 H2 => D.nx σ2 H2) : tAsg te g D σ H := q
theorem ofDct {d : Addr} {w : World} {kvs : List NE} {G H H' : Hp} (h : H d = some (dN w d kvs)) (c : Ch d H H') : KeepL G H H' := KeepL.ch h (fun _ z => by cases z) (fun _ z => by cases z) c
/-- the counts of the options -/
def leftV (tk : Tk) (keys : List NK) (k : NK) (i : Nat) : Option Nat := if k ∈ keys ∧ i < (tk k).length then some ((tk k).getD i []).length else none
structure LeftAt (w : World) (H : Hp) (F : Addr) (lk : List NE) (S : NK → Nat → Option Int) : Prop where
  d : H F = some (dN w F lk)
  ko : KeysOk H lk
  v : ∀ k i, valN lk (lkey k i) = (S k i).map V.int
theorem LeftAt.kp {w : World} {H H' : Hp} {F : Addr} {lk : List NE} {S : NK → Nat → Option Int} (t : TxN H H') (e : H' F = H F) (h : LeftAt w H F lk S) : LeftAt w H' F lk S := ⟨by rw [e]; exact h.d, h.ko.tx t, h.v⟩
theorem LeftAt.put {w : World} {H : Hp} {F b : Addr} {lk : List NE} {S : NK → Nat → Option Int} {k : NK} {i : Nat} {n : Int} (h : LeftAt w H F lk S) (dp : (lkey k i).depth ≤ 8) (nb : NAt H (.ref b) (lkey k i)) :
    LeftAt w (upd H F (dN w F (putN lk (lkey k i) b (.int n)))) F (putN lk (lkey k i) b (.int n)) (fun k' i' => if k = k' ∧ i = i' then some n else S k' i') := by
  have t : TxN H (upd H F (dN w F (putN lk (lkey k i) b (.int n)))) := txn_dn h.d
  refine ⟨upd_same, (KeysOk.put h.ko dp nb).tx t, fun k' i' => ?_⟩
  rw [valN_put]
  by_cases z : k = k' ∧ i = i'
  · rw [if_pos z, if_pos (by rw [z.1, z.2])]
    rfl
  · rw [if_neg z, if_neg (fun q => z (lkey_inj q))]
    exact h.v k' i'
theorem lkey_depth {k : NK} {i : Nat} (h : k.depth ≤ 5) : (lkey k i).depth ≤ 8 := by
  unfold lkey NK.depth
  have : NK.depths [k, .int (i : Int)] ≤ 5 := depths_le fun x hx => by
    rcases List.mem_cons.mp hx with rfl | hx
    · exact h
    · rw [List.mem_singleton.mp hx]; exact Nat.zero_le _
  omega
theorem useN_depth {k : NK} {i j : Nat} (h : k.depth ≤ 5) : (useN k i j).depth ≤ 8 := by
  unfold useN NK.depth
  have : NK.depths [k, .int (i : Int), .int (j : Int)] ≤ 5 := depths_le fun x hx => by
    rcases List.mem_cons.mp hx with rfl | hx
    · exact h
    rcases List.mem_cons.mp hx with rfl | hx
    · exact Nat.zero_le _
    · rw [List.mem_singleton.mp hx]; exact Nat.zero_le _
  omega
def leftC (tk : Tk) (keys Fd : List NK) (k : NK) (i : Nat) : Option Nat := if k ∈ keys ∧ i < (tk k).length then some (cnt Fd k i ((tk k).getD i []).length) else none
/-- the heap of the loop: the beaten places B, the waiting ones W, the failed uses Z, the counts F -/
structure BAt (w : World) (H : Hp) (B W Z F : Addr) (tk : Tk) (keys Bt Wt Fd Cd : List NK) : Prop where
  hb : ∃ bk, H B = some (dN w B bk) ∧ KeysOk H bk ∧ bk.map (·.1) = Bt
  hw : ∃ ws, H W = some (.lst ws) ∧ NAts H ws Wt
  hz : ∃ fk, H Z = some (dN w Z fk) ∧ KeysOk H fk ∧ fk.map (·.1) = Fd
  hf : ∃ lk, LeftAt w H F lk (fun k i => (leftC tk keys Cd k i).map Int.ofNat) ∧ lk.length ≤ 90000
  ne : B ≠ Z ∧ B ≠ F ∧ Z ≠ F
theorem BAt.ex {w : World} {H H' : Hp} {B W Z F : Addr} {tk : Tk} {keys Bt Wt Fd Cd : List NK} (e : Ex H H') (h : BAt w H B W Z F tk keys Bt Wt Fd Cd) : BAt w H' B W Z F tk keys Bt Wt Fd Cd := by
  obtain ⟨⟨bk, b1, b2, b3⟩, ⟨ws, w1, w2⟩, ⟨fk, z1, z2, z3⟩, ⟨lk, f1, f2⟩, ne⟩ := h
  exact ⟨⟨bk, e _ _ b1, b2.tx (ex_txn e), b3⟩, ⟨ws, e _ _ w1, w2.tx (ex_txn e)⟩, ⟨fk, e _ _ z1, z2.tx (ex_txn e), z3⟩, ⟨lk, f1.kp (ex_txn e) ((e _ _ f1.d).trans f1.d.symm), f2⟩, ne⟩
theorem dn_ne_lst {w : World} {H : Hp} {a b : Addr} {kvs : List NE} {xs : List V} (h1 : H a = some (dN w a kvs)) (h2 : H b = some (.lst xs)) : a ≠ b := fun z => by rw [z, h2] at h1; cases h1
theorem BAt.setW {w : World} {H : Hp} {B W Z F : Addr} {tk : Tk} {keys Bt Wt Wt' Fd Cd : List NK} {ws' : List V} (h : BAt w H B W Z F tk keys Bt Wt Fd Cd) (na : NAts H ws' Wt') : BAt w (upd H W (.lst ws')) B W Z F tk keys Bt Wt' Fd Cd := by
  obtain ⟨⟨bk, b1, b2, b3⟩, ⟨ws, w1, w2⟩, ⟨fk, z1, z2, z3⟩, ⟨lk, f1, f2⟩, ne⟩ := h
  have t : TxN H (upd H W (.lst ws')) := (KeepL.at_ (G := H) w1 (fun _ z => by cases z) (.inr (by rw [w1]; intro z; cases z))).t
  exact ⟨⟨bk, by rw [upd_ne (dn_ne_lst b1 w1)]; exact b1, b2.tx t, b3⟩, ⟨ws', upd_same, na.tx t⟩, ⟨fk, by rw [upd_ne (dn_ne_lst z1 w1)]; exact z1, z2.tx t, z3⟩, ⟨lk, f1.kp t (upd_ne (dn_ne_lst f1.d w1)), f2⟩, ne⟩
theorem BAt.putZ {w : World} {H : Hp} {B W Z F b : Addr} {tk : Tk} {keys Bt Wt Fd Cd : List NK} {fk : List NE} {f : NK} {v : V} (h : BAt w H B W Z F tk keys Bt Wt Fd Cd) (hz : H Z = some (dN w Z fk)) (kz : KeysOk H fk) (ez : fk.map (·.1) = Fd) (nf : f ∉ Fd) (dp : f.depth ≤ 8) (nb : NAt H (.ref b) f) :
    BAt w (upd H Z (dN w Z (putN fk f b v))) B W Z F tk keys Bt Wt (Fd ++ [f]) Cd := by
  obtain ⟨⟨bk, b1, b2, b3⟩, ⟨ws, w1, w2⟩, _, ⟨lk, f1, f2⟩, ne⟩ := h
  have t : TxN H (upd H Z (dN w Z (putN fk f b v))) := txn_dn hz
  refine ⟨⟨bk, by rw [upd_ne ne.1]; exact b1, b2.tx t, b3⟩, ⟨ws, by rw [upd_ne (dn_ne_lst hz w1).symm]; exact w1, w2.tx t⟩, ⟨_, upd_same, (KeysOk.put kz dp nb).tx t, ?_⟩, ⟨lk, f1.kp t (upd_ne (Ne.symm ne.2.2)), f2⟩, ne⟩
  rw [putN_new (valN_none.mpr (by rw [ez]; exact nf)), List.map_append, ez]
  rfl
theorem BAt.putB {w : World} {H : Hp} {B W Z F b : Addr} {tk : Tk} {keys Bt Wt Fd Cd : List NK} {bk : List NE} {f : NK} {v : V} (h : BAt w H B W Z F tk keys Bt Wt Fd Cd) (hz : H B = some (dN w B bk)) (kz : KeysOk H bk) (ez : bk.map (·.1) = Bt) (nf : f ∉ Bt) (dp : f.depth ≤ 8) (nb : NAt H (.ref b) f) :
    BAt w (upd H B (dN w B (putN bk f b v))) B W Z F tk keys (Bt ++ [f]) Wt Fd Cd := by
  obtain ⟨_, ⟨ws, w1, w2⟩, ⟨fk, z1, z2, z3⟩, ⟨lk, f1, f2⟩, ne⟩ := h
  have t : TxN H (upd H B (dN w B (putN bk f b v))) := txn_dn hz
  refine ⟨⟨_, upd_same, (KeysOk.put kz dp nb).tx t, ?_⟩, ⟨ws, by rw [upd_ne (dn_ne_lst hz w1).symm]; exact w1, w2.tx t⟩, ⟨fk, by rw [upd_ne (Ne.symm ne.1)]; exact z1, z2.tx t, z3⟩, ⟨lk, f1.kp t (upd_ne (Ne.symm ne.2.1)), f2⟩, ne⟩
  rw [putN_new (valN_none.mpr (by rw [ez]; exact nf)), List.map_append, ez]
  rfl
theorem BAt.putF {w : World} {H : Hp} {B W Z F b : Addr} {tk : Tk} {keys Bt Wt Fd Cd : List NK} {lk : List NE} {k : NK} {i j : Nat} {t : List (List NK)} {n : Int} (h : BAt w H B W Z F tk keys Bt Wt Fd Cd) (hl : LeftAt w H F lk (fun k i => (leftC tk keys Cd k i).map Int.ofNat)) (ll : lk.length ≤ 90000)
    (hk : k ∈ keys) (ht : (tk k)[i]? = some t) (dp : (lkey k i).depth ≤ 8) (nb : NAt H (.ref b) (lkey k i)) (e : n = (cnt (Cd ++ [useN k i j]) k i t.length : Nat)) :
    BAt w (upd H F (dN w F (putN lk (lkey k i) b (.int n)))) B W Z F tk keys Bt Wt Fd (Cd ++ [useN k i j]) := by
  obtain ⟨⟨bk, b1, b2, b3⟩, ⟨ws, w1, w2⟩, ⟨fk, z1, z2, z3⟩, _, ne⟩ := h
  have tx : TxN H (upd H F (dN w F (putN lk (lkey k i) b (.int n)))) := txn_dn hl.d
  have P := hl.put (n := n) dp nb
  have il : i < (tk k).length := (List.getElem?_eq_some_iff.mp ht).1
  have tS : (tk k).getD i [] = t := by rw [List.getD_eq_getElem?_getD, ht]; rfl
  refine ⟨⟨bk, by rw [upd_ne ne.2.1]; exact b1, b2.tx tx, b3⟩, ⟨ws, by rw [upd_ne (dn_ne_lst hl.d w1).symm]; exact w1, w2.tx tx⟩, ⟨fk, by rw [upd_ne ne.2.2]; exact z1, z2.tx tx, z3⟩, ⟨_, ⟨P.d, P.ko, fun k' i' => ?_⟩, ?_⟩, ne⟩
  · rw [P.v]
    congr 1
    unfold leftC
    by_cases z : k = k' ∧ i = i'
    · obtain ⟨rfl, rfl⟩ := z
      rw [if_pos ⟨rfl, rfl⟩, if_pos ⟨hk, il⟩, tS, e]
      rfl
    · rw [if_neg z, cnt_other z]
  · have ev := hl.v k i
    unfold leftC at ev
    rw [if_pos ⟨hk, il⟩] at ev
    rw [len_old ev]
    exact ll
theorem keysN_nats {H : Hp} : ∀ {kvs : List NE}, KeysOk H kvs → NAts H (kvs.map fun e => V.ref e.2.1) (kvs.map (·.1))
  | [], _ => .nil
  | x :: kvs, h => .cons (h x (List.mem_cons_self ..)).2 (keysN_nats fun e he => h e (List.mem_cons_of_mem _ he))
def sp_beaten (w : World) (tk : Tk) (Pl : List NK) : Sp := fun vs H Q _ => ∃ (D : Addr) (G : Hp) (kvs : List NE), vs = [.ref D] ∧ TasksAt w G H D kvs tk Pl ∧ (∀ a, H a = none → G a = none) ∧ (∀ e ∈ kvs, ∀ x ∈ aftersF (tk e.1), x ∈ kvs.map (·.1)) ∧
  ∀ B bk H', H B = none → Ex H H' → H' B = some (dN w B bk) → KeysOk H' bk → (∀ e ∈ bk, Lose tk e.1) → (∀ k ∈ kvs.map (·.1), Lose tk k → k ∈ bk.map (·.1)) → Q (.ref B) H'
theorem ok_beaten (T : Tp K mg) {tk : Tk} {Pl : List NK} {M : Nat} (DF : DuelF tk Pl M) : FnOk P w K mg base CX0 2 T.a_beaten_places T.d_beaten_places ["tasks"] (sp_beaten w tk Pl) := by
  have G_option_uses := ok_uses (P := P) (w := w) (base := base) T DF
  refine T.f_beaten_places.ok sc_beaten_places (fun vs H Q E h => ?_) (fun cdv A outer s H vs Q E hr h => ?_)
  · obtain ⟨D, G, kvs, rfl, _⟩ := h
    rfl
  · obtain ⟨D, G, kvs, rfl, TA, lv, cl, q⟩ := h
    have hu64 := hu64_of hr
    have hu65 := hu65_of hr
    have kl : kvs.length ≤ Pl.length := by
      have := nodupN_sub _ Pl TA.nd fun x hx => by
        obtain ⟨e, he, rfl⟩ := List.mem_map.mp hx
        exact (TA.st e he).1
      rwa [List.length_map] at this
    have kp2 := DF.pl
    obtain ⟨N, tn, tN⟩ := DF.tm
    refine ⟨_, (pss_cons (ps_set (i := 1) sc_beaten_places.nd rfl (.inl rfl) (pe_call G_option_uses (hr.mono (by decide)) (by rfl) T.g_option_uses T.f_option_uses.kp T.b_option_uses .nil pass0 (pa_cons (pv 0) pa_nil)))
  (pss_cons (ps_lock (ps_setDcNN (i := 2) (own := [("place", 3), ("task", 4), ("options", 5)]) (g := gName 3) (tt := tYes) hu64 rfl sc_beaten_places.nd rfl rfl (sw_dict rfl rfl rfl (by decide +kernel)) (pi_keysN (pv 0)) (blkOk_by (N := N_beaten_places) (sc := defScope s_beaten_places) (by decide +kernel)) (by exact ⟨(by show ∀ i ∈ ([4, 5] : List Nat), i ∈ ([3, 4, 5] : List Nat); decide), True.intro⟩) (fun _ _ _ _ _ => (pg_name (i := 3) sc_beaten_places.nd rfl (.inl rfl))) (fun _ _ _ _ _ => pts_nil) (fun _ _ _ _ _ => (gok_cons (g := gTup K 2 (gCons (gName 4) (gCons (gName 5) gNil))) (tt := tYes) [4, 5] (pi_enumK (K := K) (by rfl) T.n_enumerate (pa_cons (pe_ngetK' (w := w) hu64 (pv 0) (pv 3) (fun _ _ => rfl)) pa_nil)) (pg_tup (by rfl) (pgs_cons (pg_name (i := 4) sc_beaten_places.nd rfl (.inl rfl)) (pgs_cons (pg_name (i := 5) sc_beaten_places.nd rfl (.inl rfl)) pgs_nil))) pts_nil GensOk.nil)) (fun _ _ _ _ _ => (pe_tup (pa_cons (pv 3) (pa_cons (pv 4) pa_nil)))) (fun _ _ _ _ _ => (pe_callB (c_lenK (K := K)) (by rfl) T.n_len (by rfl) (pa_cons (pv 5) pa_nil)))))
  (pss_cons (ps_lock (ps_setDcNN (i := 6) (own := [("place", 3)]) (g := gName 3) hu64 rfl sc_beaten_places.nd rfl rfl (sw_dict rfl rfl rfl (by decide +kernel)) (pi_keysN (pv 0)) (blkOk_by (N := N_beaten_places) (sc := defScope s_beaten_places) (by decide +kernel)) (by exact True.intro) (fun _ _ _ _ _ => (pg_name (i := 3) sc_beaten_places.nd rfl (.inl rfl))) (fun _ _ _ _ _ => (pts_one (pt_cmpR (op_inDK (K := K) hu65) (pe_lst pa_nil) (pe_ngetK' (w := w) hu64 (pv 0) (pv 3) (fun _ _ => rfl)) rfl))) (fun _ _ _ _ _ => GensOk.nil) (fun _ _ _ _ _ => (pv 3)) (fun _ _ _ _ _ => pe_bl)))
  (pss_cons (ps_set (i := 7) sc_beaten_places.nd rfl (.inl rfl) (pe_callTy (c_keysN rfl) (by rfl) T.n_list (by rfl) (pa_cons (pv 6) pa_nil)))
  (pss_cons (ps_set (i := 8) sc_beaten_places.nd rfl (.inl rfl) (pe_nnew (X := _)))
  (pss_cons (ps_while PassesOwn.never (pt_truth (pv 7) (fun _ => rfl)) (pss_cons (ps_set (i := 9) sc_beaten_places.nd rfl (.inl rfl) (pe_bm0 PySem.F.plainAttrs_list PySem.F.slot_list_pop PySem.F.type_list_pop mt_pop (pv 7)))
  (pss_one (ps_for PassesOwn.never rfl (pi_list (pe_nget hu64 (pv 1) (pv 9) (fun _ _ => rfl))) (pg_name (i := 10) sc_beaten_places.nd rfl (.inl rfl))
  (pss_one (ps_if (pt_cmp (pc_nnotin hu64 (pv 10) (pv 8))) (pss_cons (ps_nput hu64 (pv 8) (pv 10) pe_bl rfl)
  (pss_cons (ps_asg (pv 10) (pg_tup (by rfl) (pgs_cons (pg_name (i := 3) sc_beaten_places.nd rfl (.inl rfl)) (pgs_cons (pg_name (i := 4) sc_beaten_places.nd rfl (.inl rfl)) (pgs_cons (pg_name (i := 11) sc_beaten_places.nd rfl (.inl rfl)) pgs_nil)))))
  (pss_cons (ps_nput hu64 (pv 2) (pe_tup (pa_cons (pv 3) (pa_cons (pv 4) pa_nil))) (pe_op op_sub (pe_nget hu64 (pv 2) (pe_tup (pa_cons (pv 3) (pa_cons (pv 4) pa_nil))) (fun _ _ => rfl)) pe_int) rfl)
  (pss_one (ps_if (PW.pt (pw_and (pt_cmpR op_eq (pe_nget hu64 (pv 2) (pe_tup (pa_cons (pv 3) (pa_cons (pv 4) pa_nil))) (fun _ _ => rfl)) pe_int (nomark _)) (pw_and1 (pt_cmp (pc_nnotin hu64 (pv 3) (pv 6)))))) (pss_cons (ps_nput hu64 (pv 6) (pv 3) pe_bl rfl)
  (pss_one (ps_expr (pe_bm PySem.F.plainAttrs_list PySem.F.slot_list_append PySem.F.type_list_append mt_append (pv 7) (pa_cons (pv 3) pa_nil))))) pss_nil))))) pss_nil))))))
  (pss_one (ps_ret (pv 6))))))))), ?_⟩
    walk_at "g"
    refine ⟨D, G, kvs, rfl, TA, lv, cl, fun U ukvs H1 nU e1 UA => ?_⟩
    walk_at "g"
    have hD1 := e1 _ _ TA.d
    refine lock_go hD1 trivial fun od => ?_
    refine r_asgT ?_
    refine tcn_k (d := D) (o := od) (kvs := kvs) (fun D2 i Ha => H1 D2 = none ∧ Ha D = some (.frz od (dN w D kvs)) ∧ Ch D H1 Ha ∧ ∃ lk, LeftAt w Ha D2 lk (fun k j => (leftV tk ((kvs.take i).map (·.1)) k j).map Int.ofNat) ∧ lk.length ≤ i * N)
      (fun R r => r_var rfl r) upd_same (fun D2 hD2 => ?_) (fun D2 i Ha _ p => p.2.1) ?_ ?_
    · have nD2 : D2 ≠ D := fun z => by rw [z, upd_same] at hD2; cases hD2
      have nH : H1 D2 = none := by rwa [upd_ne nD2] at hD2
      refine ⟨nH, by rw [upd_ne (Ne.symm nD2)]; exact upd_same, fun b o nb hb => ?_, [], ⟨upd_same, (fun _ z => nomatch z), fun k j => ?_⟩, by rw [Nat.zero_mul]; exact Nat.le_refl _⟩
      · rw [upd_ne (fun z => by rw [z, nH] at hb; cases hb), upd_ne nb]
        exact hb
      · rw [List.take_zero]
        unfold leftV
        rw [List.map_nil, if_neg (fun z => nomatch z.1)]
        rfl
    · rintro D2 i k b v Ha hk ⟨nD2, hDa, cA, lk, LA, ll⟩
      have he := List.mem_of_getElem? hk
      have kH := (KeepL.ex (G := G) e1).trans (ofDct hD1 cA)
      obtain ⟨kd, kn⟩ := TA.ko _ he
      obtain ⟨kP, sv⟩ := TA.st _ he
      replace kP : k ∈ Pl := kP
      have step : kvs.take (i + 1) = kvs.take i ++ [(k, b, v)] := by rw [List.take_add_one, hk]; rfl
      have nk : k ∉ (kvs.take i).map (·.1) := fun z => by
        have nd := TA.nd
        rw [← List.take_append_drop (i + 1) kvs, List.map_append, step, List.map_append, List.nodup_append, List.nodup_append] at nd
        exact nd.1.2.2 k z k (List.mem_singleton_self _) rfl
      have il : i < kvs.length := (List.getElem?_eq_some_iff.mp hk).1
      have tnk := tn k kP
      have k5 := (DF.dp k kP).1
      replace sv : SAt G H v (tk k) := sv
      have svA := sv.kp kH
      obtain ⟨L0, us0, rfl, nL0, hL0, lu0, it0⟩ := id sv
      refine gname1 ⟨rfl, yes_q (ite_t rfl ?_)⟩
      refine tin_e (a := L0) (xs := us0) (fun j Hb => Hb D = some (.frz od (dN w D kvs)) ∧ Ch D H1 Hb ∧ ∃ lk, LeftAt w Hb D2 lk (fun k' j' => if k' = k then (if j' < j then some (((tk k).getD j' []).length : Int) else none) else (leftV tk ((kvs.take i).map (·.1)) k' j').map Int.ofNat) ∧ lk.length ≤ i * N + j)
        (fun R r => ?_) (SqL.of (kH.l _ _ nL0 hL0)) ⟨hDa, cA, lk, ⟨LA.d, LA.ko, fun k' j' => ?_⟩, ll⟩ (fun j Hb _ p => SqL.of (((KeepL.ex (G := G) e1).trans (ofDct hD1 p.2.1)).l _ _ nL0 hL0)) ?_ ?_
      · refine r_cons ?_
        refine r_nget (r_var rfl (r_var rfl ⟨D, .ref L0, rfl, ⟨kvs, k, b, .inr ⟨_, hDa⟩, TA.ko.tx kH.t, rfl, kd, kn.tx kH.t, (valN_at TA.nd he).symm⟩, ?_⟩))
        exact r
      · rw [LA.v]
        by_cases z : k' = k
        · rw [if_pos z, if_neg (Nat.not_lt_zero _)]
          unfold leftV
          rw [if_neg (fun y => nk (by rw [← z]; exact y.1))]
          rfl
        · rw [if_neg z]
      · rintro j u Hb Tt hu ⟨hDb, cB, lk2, LB, ll2⟩ nT
        have jl : j < (tk k).length := by rw [← lu0]; exact (List.getElem?_eq_some_iff.mp hu).1
        obtain ⟨u', hu', tA⟩ := it0 j (tk k)[j] (List.getElem?_eq_getElem jl)
        rw [hu] at hu'
        cases hu'
        have tS : (tk k).getD j [] = (tk k)[j] := by rw [List.getD_eq_getElem?_getD, List.getElem?_eq_getElem jl]; rfl
        obtain ⟨L1, us1, rfl, nL1, hL1, lu1, _⟩ := tA
        have eT : Ex Hb (upd Hb Tt (.tup [.int (j : Int), .ref L1])) := Ex.new nT
        have hT : (upd Hb Tt (.tup [.int (j : Int), .ref L1])) Tt = some (.tup [.int (j : Int), .ref L1]) := upd_same
        have hDe := eT _ _ hDb
        have cE := chu_ex cB eT
        have LE := LB.kp (ex_txn eT) ((eT _ _ LB.d).trans LB.d.symm)
        generalize (upd Hb Tt (.tup [.int (j : Int), .ref L1])) = He at hT hDe cE LE
        have kE := (KeepL.ex (G := G) e1).trans (ofDct hD1 cE)
        refine gtup2 hT (gnames2 ⟨rfl, yes_q (ite_t rfl ?_)⟩)
        unfold tIn emN
        walk_at "g"
        refine tup_go (ks := [k, .int (j : Int)]) (.cons (kn.tx kE.t) (.cons (.int _) .nil)) fun pk Hf nf ef af _ => ?_
        walk_at "g"
        have cF := chu_ex cE ef
        have kF := (KeepL.ex (G := G) e1).trans (ofDct hD1 cF)
        refine len_l (.inl (.inl (kF.l _ _ nL1 hL1))) ?_
        have LF := LE.kp (ex_txn ef) ((ef _ _ LE.d).trans LE.d.symm)
        have hDf := ef _ _ hDe
        have nDD : D ≠ D2 := fun z => by rw [z, LF.d] at hDf; cases hDf
        have h3 : (i + 1) * N ≤ Pl.length * N := Nat.mul_le_mul_right N (by omega)
        rw [Nat.add_mul, Nat.one_mul] at h3
        refine ⟨lk2, lkey k j, pk, LF.d, LF.ko, rfl, lkey_depth k5, af, sz_lt (by omega), by rw [upd_ne nDD]; exact hDf, chu_up cF nD2, putN lk2 (lkey k j) pk (.int (us1.length : Int)), ?_, ?_⟩
        · have LP := LF.put (n := (us1.length : Int)) (lkey_depth k5) af
          refine ⟨LP.d, LP.ko, fun k' j' => ?_⟩
          rw [LP.v]
          congr 1
          by_cases z : k' = k
          · subst z
            by_cases y : j = j'
            · subst y
              rw [if_pos ⟨rfl, rfl⟩, if_pos rfl, if_pos (Nat.lt_succ_self _), tS, lu1]
            · rw [if_neg (fun q => y q.2), if_pos rfl, if_pos rfl]
              by_cases x : j' < j
              · rw [if_pos x, if_pos (by omega)]
              · rw [if_neg x, if_neg (by omega)]
          · rw [if_neg (fun q => z q.1.symm), if_neg z, if_neg z]
        · have := length_putN lk2 (lkey k j) pk (.int (us1.length : Int))
          omega
      · rintro Hb ⟨hDb, cB, lk2, LB, ll2⟩
        rw [lu0] at LB ll2
        refine ⟨nD2, hDb, cB, lk2, ⟨LB.d, LB.ko, fun k' j' => ?_⟩, by rw [Nat.add_mul, Nat.one_mul]; omega⟩
        rw [LB.v]
        congr 1
        rw [step, List.map_append]
        unfold leftV
        by_cases z : k' = k
        · subst z
          rw [if_pos rfl]
          by_cases y : j' < (tk k').length
          · rw [if_pos y, if_pos ⟨List.mem_append_right _ (List.mem_singleton_self _), y⟩]
            rfl
          · rw [if_neg y, if_neg (fun q => y q.2)]
            rfl
        · rw [if_neg z]
          have e : (k' ∈ (kvs.take i).map (·.1) ++ [(k, b, V.ref L0)].map (·.1)) ↔ k' ∈ (kvs.take i).map (·.1) := by
            rw [List.mem_append]
            exact ⟨fun h => h.resolve_right (fun h => z (List.mem_singleton.mp h)), .inl⟩
          by_cases y : k' ∈ (kvs.take i).map (·.1) ∧ j' < (tk k').length
          · rw [if_pos y, if_pos ⟨e.mpr y.1, y.2⟩]
          · rw [if_neg y, if_neg (fun q => y ⟨e.mp q.1, q.2⟩)]
    · rintro F Ha ⟨nF, hDa, cA, lk, LA, ll⟩
      refine ⟨hDa, ?_⟩
      rw [List.take_length] at LA
      walk_at "g"
      have e2 : Ex H1 (upd Ha D (dN w D kvs)) := fun a o h => by
        by_cases z : a = D
        · subst z
          rw [upd_same]
          rw [hD1] at h
          exact h
        · rw [upd_ne z]
          exact cA a o z h
      have nFD : F ≠ D := fun z => by rw [z, hD1] at nF; cases nF
      have nUF : U ≠ F := fun z => by rw [← z, UA.u] at nF; cases nF
      have lkl : lk.length ≤ 90000 := Nat.le_trans ll (Nat.le_trans (Nat.mul_le_mul_right N kl) tN)
      have L2 : LeftAt w (upd Ha D (dN w D kvs)) F lk (fun k j => (leftV tk (kvs.map (·.1)) k j).map Int.ofNat) :=
        LA.kp (KeepL.at_ (G := Ha) hDa (fun _ z => by cases z) (.inl (fun _ z => by cases z))).t (upd_ne nFD)
      have hD2 : (upd Ha D (dN w D kvs)) D = some (dN w D kvs) := upd_same
      generalize (upd Ha D (dN w D kvs)) = H2 at e2 L2 hD2
      clear hDa cA LA ll
      have UA2 := UA.ex e2
      have k2 := KeepL.ex (G := G) (e1.trans e2)
      refine lock_go hD2 trivial fun od2 => ?_
      refine r_asgT ?_
      refine tcn_k (d := D) (o := od2) (kvs := kvs) (fun B i Hc => H2 B = none ∧ Hc D = some (.frz od2 (dN w D kvs)) ∧ Ch D H2 Hc ∧ ∃ bk, Hc B = some (dN w B bk) ∧ KeysOk Hc bk ∧ bk.map (·.1) = ((kvs.take i).map (·.1)).filter (fun k => decide ([] ∈ tk k)))
        (fun R r => r_var rfl r) upd_same (fun B hB => ?_) (fun B i Hc _ p => p.2.1) ?_ ?_
      · have nBD : B ≠ D := fun z => by rw [z, upd_same] at hB; cases hB
        have nB : H2 B = none := by rwa [upd_ne nBD] at hB
        exact ⟨nB, by rw [upd_ne (Ne.symm nBD)]; exact upd_same, fun b o nb hb => by
          rw [upd_ne (fun z => by rw [z, nB] at hb; cases hb), upd_ne nb]
          exact hb, [], upd_same, (fun _ z => nomatch z), by rw [List.take_zero]; rfl⟩
      · rintro B i k b v Hc hk ⟨nB, hDc, cC, bk, hB, ko, bm⟩
        have he := List.mem_of_getElem? hk
        have kH := k2.trans (ofDct hD2 cC)
        obtain ⟨kd, kn⟩ := TA.ko _ he
        obtain ⟨kP, sv⟩ := TA.st _ he
        replace kP : k ∈ Pl := kP
        have step : kvs.take (i + 1) = kvs.take i ++ [(k, b, v)] := by rw [List.take_add_one, hk]; rfl
        have il : i < kvs.length := (List.getElem?_eq_some_iff.mp hk).1
        have k5 := (DF.dp k kP).1
        replace sv : SAt G H v (tk k) := sv
        refine gname1 ⟨rfl, ?_⟩
        refine r_test (r_op (r_lst (r_nil ⟨Nat.zero_le _, fun p np => ?_⟩)))
        have eP : Ex Hc (upd Hc p (.lst [])) := Ex.new np
        have hP : (upd Hc p (.lst [])) p = some (.lst []) := upd_same
        have hDe := eP _ _ hDc
        have cE := chu_ex cC eP
        have hBe := eP _ _ hB
        have koe := ko.tx (ex_txn eP)
        generalize (upd Hc p (.lst [])) = He at hP hDe cE hBe koe
        have kE := k2.trans (ofDct hD2 cE)
        refine r_nget (r_var rfl (r_var rfl ⟨D, v, rfl, ⟨kvs, k, b, .inr ⟨_, hDe⟩, TA.ko.tx kE.t, rfl, kd, kn.tx kE.t, (valN_at TA.nd he).symm⟩, ?_⟩))
        refine ⟨.list [], (tk k).map tD, .lst (SqL.of hP) .nil, sat_dp (sv.kp kE), nil_shaped, tasks_shaped (fun x hx => ⟨(DF.dp x (DF.cl k kP x hx)).1, (DF.dp x (DF.cl k kP x hx)).2.2⟩), _, rfl, ?_⟩
        rw [any_nil]
        have fs : ((kvs.take (i + 1)).map (·.1)).filter (fun k => decide ([] ∈ tk k)) = ((kvs.take i).map (·.1)).filter (fun k => decide ([] ∈ tk k)) ++ if [] ∈ tk k then [k] else [] := by
          rw [step, List.map_append, List.filter_append]
          congr 1
          by_cases z : [] ∈ tk k
          · rw [if_pos z]
            exact List.filter_cons_of_pos (decide_eq_true z)
          · rw [if_neg z]
            exact List.filter_cons_of_neg (fun q => z (of_decide_eq_true q))
        by_cases z : [] ∈ tk k
        · rw [if_pos (decide_eq_true z)]
          rw [if_pos z] at fs
          have nk : valN bk k = none := valN_none.mpr fun y => by
            rw [bm, List.mem_filter] at y
            have nd := TA.nd
            rw [← List.take_append_drop (i + 1) kvs, List.map_append, step, List.map_append, List.nodup_append, List.nodup_append] at nd
            exact nd.1.2.2 k y.1 k (List.mem_singleton_self _) rfl
          unfold tIn emN
          refine r_var rfl (r_c ?_)
          have bl : bk.length ≤ i := by
            have e := congrArg List.length bm
            rw [List.length_map] at e
            rw [e]
            refine Nat.le_trans (List.length_filter_le _ _) ?_
            rw [List.length_map, List.length_take]
            omega
          have nBD : D ≠ B := fun z => by rw [z, hBe] at hDe; cases hDe
          refine ⟨bk, k, b, hBe, koe, rfl, by omega, kn.tx kE.t, sz_lt (by omega), nB, by rw [upd_ne nBD]; exact hDe, chu_up cE nB, bk ++ [(k, b, .bl true)], ?_, ?_, ?_⟩
          · rw [putN_new nk]
            exact upd_same
          · have kp := KeysOk.put koe kd (kn.tx kE.t) (v := .bl true)
            rw [putN_new nk] at kp
            exact kp.tx (txn_dn hBe)
          · rw [List.map_append, bm, fs]
            rfl
        · rw [if_neg (fun y => z (of_decide_eq_true y))]
          rw [if_neg z, List.append_nil] at fs
          exact ⟨nB, hDe, cE, bk, hBe, koe, by rw [bm, fs]⟩
      · rintro B Hc ⟨nB, hDc, cC, bk, hB, ko, bm⟩
        refine ⟨hDc, ?_⟩
        rw [List.take_length] at bm
        have e3 := unlk hD2 cC
        have nBD : B ≠ D := fun z => by rw [z, hDc] at hB; cases hB
        have hB3 : (upd Hc D (dN w D kvs)) B = some (dN w B bk) := by rw [upd_ne nBD]; exact hB
        have ko3 : KeysOk (upd Hc D (dN w D kvs)) bk := ko.tx (KeepL.at_ (G := Hc) hDc (fun _ z => by cases z) (.inl (fun _ z => by cases z))).t
        generalize (upd Hc D (dN w D kvs)) = H3 at e3 hB3 ko3
        clear hDc hB ko cC
        have UA3 := UA2.ex e3
        have L3 := L2.kp (ex_txn e3) ((e3 _ _ L2.d).trans L2.d.symm)
        walk_at "g"
        refine ⟨B, bk, rfl, .inl hB3, fun W nW => ?_⟩
        have e4 : Ex H3 (upd H3 W (.lst (bk.map fun e => V.ref e.2.1))) := Ex.new nW
        have hW : (upd H3 W (.lst (bk.map fun e => V.ref e.2.1))) W = some (.lst (bk.map fun e => V.ref e.2.1)) := upd_same
        have naW : NAts (upd H3 W (.lst (bk.map fun e => V.ref e.2.1))) (bk.map fun e => V.ref e.2.1) (bk.map (·.1)) := by
          have := keysN_nats (ko3.tx (ex_txn e4))
          exact this
        have UW : UsAt w (fun a => if a = W then some (.lst []) else none) H3 U ukvs (usesK tk (kvs.map (·.1))) (kvs.map (·.1)) :=
          ⟨UA3.u, UA3.ko, UA3.ks, UA3.nd, fun e he => by
            obtain ⟨L, us, a, _, c, d⟩ := UA3.at_ e he
            exact ⟨L, us, a, if_neg (fun z => by rw [z, nW] at c; cases c), c, d⟩, UA3.inj⟩
        replace UW := UW.ex e4
        have hB4 := e4 _ _ hB3
        have ko4 := ko3.tx (ex_txn e4)
        have L4 := L3.kp (ex_txn e4) ((e4 _ _ L3.d).trans L3.d.symm)
        have nWH : H W = none := none_ex (((e1.trans e2).trans e3)) nW
        generalize (upd H3 W (.lst (bk.map fun e => V.ref e.2.1))) = H4 at e4 hW naW UW hB4 ko4 L4
        walk_at "g"
        refine nnew_go fun Z H5 nZ e5 hZ => ?_
        have nFH : H F = none := none_ex e1 nF
        have nBH : H B = none := none_ex (e1.trans e2) nB
        have e04 := ((e1.trans e2).trans e3).trans e4
        have nZH : H Z = none := none_ex e04 nZ
        have e05 := e04.trans e5
        have nUB : U ≠ B := fun z => by rw [← z, UA2.u] at nB; cases nB
        have nBF : B ≠ F := fun z => by rw [z] at nB; rw [L2.d] at nB; cases nB
        have nZB : Z ≠ B := fun z => by rw [z, hB4] at nZ; cases nZ
        have nZF : Z ≠ F := fun z => by rw [z, L4.d] at nZ; cases nZ
        have nUZ : U ≠ Z := fun z => by rw [← z, UW.u] at nZ; cases nZ
        have S0 : BAt w H5 B W Z F tk (kvs.map (·.1)) (bk.map (·.1)) (bk.map (·.1)) [] [] := ⟨⟨bk, e5 _ _ hB4, ko4.tx (ex_txn e5), rfl⟩, ⟨_, e5 _ _ hW, naW.tx (ex_txn e5)⟩, ⟨[], hZ, (fun _ z => nomatch z), rfl⟩, ⟨lk, ⟨e5 _ _ L4.d, L4.ko.tx (ex_txn e5), fun k i => by
          rw [L4.v]
          congr 1
          unfold leftV leftC
          rw [cnt_nil]⟩, lkl⟩, Ne.symm nZB, nBF, nZF⟩
        rw [bm] at S0
        replace UW := UW.ex e5
        clear hB4 ko4 L4 naW hW hZ e4 e5 hB3 ko3 L3 L2 UA3 UA2 UA e3 bm
        walk_at "g"
        refine wh_go (fun m σ' Ha => ∃ y3 y4 y5 y9 y10 y11 Bt Wt Fd, σ' = [some (.ref D), some (.ref U), some (.ref F), y3, y4, y5, some (.ref B), some (.ref W), some (.ref Z), y9, y10, y11] ∧ Ex H Ha ∧ UsAt w (fun a => if a = W then some (.lst []) else none) Ha U ukvs (usesK tk (kvs.map (·.1))) (kvs.map (·.1)) ∧ BAt w Ha B W Z F tk (kvs.map (·.1)) Bt Wt Fd Fd ∧ BInv tk (kvs.map (·.1)) Bt Wt Fd (fun _ => False) ∧ m + 2 * Bt.length = 2 * kvs.length + Wt.length)
          ⟨2 * kvs.length - (((kvs.map (·.1)).filter fun k => decide ([] ∈ tk k))).length, _, _, _, _, _, _, _, _, _, rfl, e05, UW, S0, BInv.start TA.nd, ?_⟩ ?_ ?_
        · have := List.length_filter_le (fun k => decide ([] ∈ tk k)) (kvs.map (·.1))
          rw [List.length_map] at this
          omega
        · rintro m σ' Ha ⟨y3, y4, y5, y9, y10, y11, Bt, Wt, Fd, rfl, eA, UA, SA, IV, hm⟩
          obtain ⟨ws, hWa, naW⟩ := id SA.hw
          have lw := naW.len
          refine r_tru rfl (.inl ⟨ws, SqL.of hWa, rfl⟩) ?_
          rcases List.eq_nil_or_concat Wt with rfl | ⟨Wt', x, rfl⟩
          · have ez : ws = [] := List.length_eq_zero_iff.mp lw
            rw [ez]
            refine ite_f rfl ?_
            walk_at "g"
            obtain ⟨bk, hb, kb, rfl⟩ := SA.hb
            refine q B bk Ha nBH eA hb kb (fun e he => (IV.bt _ (List.mem_map.mpr ⟨e, he, rfl⟩)).2) fun k hk l => IV.fin (fun k hk x hx => ?_) hk l
            obtain ⟨e, he, rfl⟩ := List.mem_map.mp hk
            exact cl e he x hx
          · rw [List.concat_eq_append] at naW IV SA hm
            obtain ⟨ws', u, rfl, na', nu⟩ := nats_snoc_inv naW
            refine ite_t (by cases ws' <;> rfl) ?_
            walk_at "g"
            refine r_popL rfl hWa ?_
            have kW : KeepL (fun a => if a = W then some (.lst []) else none) Ha (upd Ha W (.lst ws')) := KeepL.at_ hWa (fun _ z => by cases z) (.inr (by rw [if_pos rfl]; intro z; cases z))
            have nUW : U ≠ W := dn_ne_lst UA.u hWa
            have UB := UA.kp kW (upd_ne nUW)
            have SB := SA.setW na'
            have eB : Ex H (upd Ha W (.lst ws')) := ex_upd eA nWH
            have nuB := nu.tx kW.t
            have naB := na'.tx kW.t
            have IB := IV.pop
            have xB := IV.ws x (List.mem_append_right _ (List.mem_singleton_self _))
            have xK := (IB.bt x xB).1
            generalize (upd Ha W (.lst ws')) = Hb at eB UB SB nuB naB
            clear naW na' SA IV UA eA kW
            have xP : x ∈ Pl := by
              obtain ⟨e, he, rfl⟩ := List.mem_map.mp xK
              exact (TA.st e he).1
            have x5 := (DF.dp x xP).1
            rw [← UB.ks] at xK
            obtain ⟨e, hme, rfl⟩ := List.mem_map.mp xK
            obtain ⟨ek, eb, ev⟩ := e
            obtain ⟨L, us, eL, nL, hL, naL⟩ := UB.at_ _ hme
            replace eL : ev = V.ref L := eL
            subst eL
            replace naL : NAts Hb us (ofP (usesK tk (kvs.map (·.1))) ek) := naL
            have G2 : (fun a => if a = W then some (HO.lst []) else none) L = none := nL
            obtain ⟨xb, xx, rfl, hxb, _⟩ : ∃ xb xx, u = V.ref xb ∧ Hb xb = some (.tup xx) ∧ True := by
              obtain ⟨_, ⟨ks, e⟩, _⟩ := DF.dp ek xP
              have nu2 : NAt Hb u (.tup ks) := by rw [← e]; exact nuB
              obtain ⟨a, b, c, d, _⟩ := nu2.tupOf
              exact ⟨a, b, c, d, True.intro⟩
            walk_at "g"
            refine r_nget (r_var rfl (r_var rfl ⟨U, .ref L, rfl, ⟨ukvs, ek, xb, .inl UB.u, UB.ko, rfl, Nat.le_trans x5 (by decide), nuB, (valN_at UB.nd hme).symm⟩, ?_⟩))
            refine ll_go (SqL.of hL) (fun n σ' Hc => ∃ y3 y4 y5 y10 y11 Bt Wt Fd, σ' = [some (.ref D), some (.ref U), some (.ref F), y3, y4, y5, some (.ref B), some (.ref W), some (.ref Z), some (.ref xb), y10, y11] ∧ Ex H Hc ∧ KeepL (fun a => if a = W then some (.lst []) else none) Hb Hc ∧ UsAt w (fun a => if a = W then some (.lst []) else none) Hc U ukvs (usesK tk (kvs.map (·.1))) (kvs.map (·.1)) ∧ BAt w Hc B W Z F tk (kvs.map (·.1)) Bt Wt Fd Fd ∧ BInv tk (kvs.map (·.1)) Bt Wt Fd (fun b => b = ek) ∧ ek ∈ Bt ∧ (∀ f ∈ (ofP (usesK tk (kvs.map (·.1))) ek).take n, f ∈ Fd) ∧ 2 * kvs.length + Wt.length + 1 ≤ m + 2 * Bt.length)
              ⟨_, _, _, _, _, Bt, Wt', Fd, rfl, eB, KeepL.ex (fun _ _ h => h), UB, SB, IB, xB, (by rw [List.take_zero]; exact fun _ z => nomatch z), by rw [List.length_append] at hm; simp only [List.length_cons, List.length_nil] at hm; omega⟩ (fun n σ' Hc _ p => by obtain ⟨_, _, _, _, _, _, _, _, _, _, z, _⟩ := p; exact SqL.of (z.l _ _ G2 hL)) ?_ ?_
            · rintro n v σ' Hc hv ⟨y3, y4, y5, y10, y11, Bt, Wt, Fd, rfl, eC, kC, UC, SC, IC, xC, pre, hmc⟩
              obtain ⟨f, hf, nf⟩ := (naL.tx kC.t).get hv
              have fm := List.mem_of_getElem? hf
              obtain ⟨k, hk, i, j, t, o, ht, ho, xo, rfl⟩ := mem_usesK.mp (mem_ofP.mp fm)
              refine gname1 ?_
              walk_at "g"
              have kP : k ∈ Pl := by
                obtain ⟨e, he, rfl⟩ := List.mem_map.mp hk
                exact (TA.st e he).1
              have k5 := (DF.dp k kP).1
              have tk1 : (ofP (usesK tk (kvs.map (·.1))) ek).take (n + 1) = (ofP (usesK tk (kvs.map (·.1))) ek).take n ++ [useN k i j] := by rw [List.take_add_one, hf]; rfl
              obtain ⟨fa, fx, rfl, hfa, nfx⟩ := id (show NAt Hc v (.tup [k, .int (i : Int), .int (j : Int)]) from nf).tupOf
              obtain ⟨fk, z1, z2, z3⟩ := id SC.hz
              refine r_nnotin ?_
              walk_at "g"
              refine ⟨Z, _, rfl, ⟨fk, useN k i j, fa, .inl z1, z2, rfl, useN_depth k5, nf, rfl⟩, ?_⟩
              by_cases old : useN k i j ∈ Fd
              · have ev : (valN fk (useN k i j)).isSome = true := by
                  cases z : valN fk (useN k i j) with
                  | none => exact absurd old (by rw [← z3]; exact valN_none.mp z)
                  | some _ => rfl
                rw [ev]
                refine ⟨_, rfl, ite_f rfl ?_⟩
                walk_at "g"
                refine ⟨_, _, _, _, _, Bt, Wt, Fd, rfl, eC, kC, UC, SC, IC, xC, fun f hf => ?_, hmc⟩
                rw [tk1] at hf
                rcases List.mem_append.mp hf with hf | hf
                · exact pre f hf
                · rw [List.mem_singleton.mp hf]
                  exact old
              · have ev := valN_none.mpr (show useN k i j ∉ fk.map (·.1) by rw [z3]; exact old)
                rw [ev]
                refine ⟨_, rfl, ite_t rfl ?_⟩
                have fl := IC.fl
                have ul := usesK_len (tk := tk) (M := M) (keys := kvs.map (·.1)) (fun k hk => by
                  obtain ⟨e, he, rfl⟩ := List.mem_map.mp hk
                  exact DF.am _ (TA.st e he).1)
                have um := Nat.mul_le_mul_right M kl
                have up := DF.pm
                rw [List.length_map] at ul
                have fkl : fk.length = Fd.length := by rw [← z3, List.length_map]
                refine r_seq ?_
                refine r_nput' ?_
                walk_at "g"
                refine ⟨Z, upd Hc Z (dN w Z (putN fk (useN k i j) fa (.bl true))), rfl, ⟨fk, useN k i j, fa, z1, z2, rfl, useN_depth k5, nf, sz_lt (by omega), rfl⟩, ?_⟩
                have SD := SC.putZ (v := .bl true) z1 z2 z3 old (useN_depth k5) nf
                have kZ : KeepL (fun a => if a = W then some (.lst []) else none) Hc (upd Hc Z (dN w Z (putN fk (useN k i j) fa (.bl true)))) := KeepL.at_ z1 (fun _ z => by cases z) (.inl (fun _ z => by cases z))
                have UD := UC.kp kZ (upd_ne nUZ)
                have eD := ex_upd (o := dN w Z (putN fk (useN k i j) fa (.bl true))) eC nZH
                have hfaD : (upd Hc Z (dN w Z (putN fk (useN k i j) fa (.bl true)))) fa = some (.tup fx) := kZ.t _ _ hfa
                have nfD := nf.tx kZ.t
                have nfxD := nfx.tx kZ.t
                have kD := kC.trans kZ
                generalize (upd Hc Z (dN w Z (putN fk (useN k i j) fa (.bl true)))) = Hd at SD UD eD hfaD nfD nfxD kD
                cases nfxD with
                | cons np nr =>
                rename_i p pr
                cases nr with
                | cons ni nr =>
                rename_i pi pr2
                cases nr with
                | cons nj nr =>
                rename_i pj pr3
                cases nr
                cases ni
                cases nj
                walk_at "g"
                refine r_asgT (r_var rfl (gtup3 (.inl (.inl hfaD)) (gnames3 ?_)))
                walk_at "g"
                refine r_nput' ?_
                walk_at "g"
                refine r_nget (r_var rfl ?_)
                walk_at "g"
                refine tup_go (ks := [k, .int (i : Int)]) (.cons np (.cons (.int _) .nil)) fun q1 He n1 e6 a1 _ => ?_
                replace a1 : NAt He (.ref q1) (lkey k i) := a1
                have SE := SD.ex e6
                have UE := UD.ex e6
                have kE := kD.trans (KeepL.ex e6)
                have eE := eD.trans e6
                have np1 := np.tx (ex_txn e6)
                obtain ⟨lk2, lf2, ll2⟩ := id SE.hf
                have il : i < (tk k).length := (List.getElem?_eq_some_iff.mp ht).1
                have jl : j < t.length := (List.getElem?_eq_some_iff.mp ho).1
                have tS : (tk k).getD i [] = t := by rw [List.getD_eq_getElem?_getD, ht]; rfl
                have v1 : valN lk2 (lkey k i) = some (.int (cnt Fd k i t.length : Nat)) := by
                  rw [lf2.v]
                  unfold leftC
                  rw [if_pos ⟨hk, il⟩, tS]
                  rfl
                refine ⟨F, _, rfl, ⟨lk2, lkey k i, q1, .inl lf2.d, lf2.ko, rfl, lkey_depth k5, a1, v1.symm⟩, ?_⟩
                walk_at "g"
                refine tup_go (ks := [k, .int (i : Int)]) (.cons np1 (.cons (.int _) .nil)) fun q2 Hf n2 e7 a2 _ => ?_
                replace a2 : NAt Hf (.ref q2) (lkey k i) := a2
                have SF := SE.ex e7
                have UF := UE.ex e7
                have kF := kE.trans (KeepL.ex e7)
                have eF := eE.trans e7
                have np2 := np1.tx (ex_txn e7)
                obtain ⟨lk3, lf3, ll3⟩ := id SF.hf
                have cs := cnt_same (Fd := Fd) (k := k) (i := i) (j := j) (n := t.length) jl old
                refine ⟨F, upd Hf F (dN w F (putN lk3 (lkey k i) q2 (.int (((cnt Fd k i t.length : Nat) : Int) - 1)))), rfl, ⟨lk3, lkey k i, q2, lf3.d, lf3.ko, rfl, lkey_depth k5, a2, sz_lt (by omega), rfl⟩, ?_⟩
                have SG := SF.putF (n := (((cnt Fd k i t.length : Nat) : Int) - 1)) (t := t) (j := j) lf3 ll3 hk ht (lkey_depth k5) a2 (by omega)
                have kG0 : KeepL (fun a => if a = W then some (.lst []) else none) Hf (upd Hf F (dN w F (putN lk3 (lkey k i) q2 (.int (((cnt Fd k i t.length : Nat) : Int) - 1))))) := KeepL.at_ lf3.d (fun _ z => by cases z) (.inl (fun _ z => by cases z))
                have UG := UF.kp kG0 (upd_ne nUF)
                have eG := ex_upd (o := dN w F (putN lk3 (lkey k i) q2 (.int (((cnt Fd k i t.length : Nat) : Int) - 1)))) eF nFH
                have np3 := np2.tx kG0.t
                have kG := kF.trans kG0
                generalize (upd Hf F (dN w F (putN lk3 (lkey k i) q2 (.int (((cnt Fd k i t.length : Nat) : Int) - 1))))) = Hg at SG UG eG kG np3
                clear kE kF kG0 kD UE UF UD SE SF SD eE eF eD lf2 lf3 a1 a2 np np1 np2
                walk_at "g"
                refine r_nget (r_var rfl ?_)
                walk_at "g"
                refine tup_go (ks := [k, .int (i : Int)]) (.cons np3 (.cons (.int _) .nil)) fun q3 Hh n3 e8 a3 _ => ?_
                replace a3 : NAt Hh (.ref q3) (lkey k i) := a3
                have SH := SG.ex e8
                have UH := UG.ex e8
                have kH := kG.trans (KeepL.ex e8)
                have eH := eG.trans e8
                have np4 := np3.tx (ex_txn e8)
                obtain ⟨lk4, lf4, ll4⟩ := id SH.hf
                have v2 : valN lk4 (lkey k i) = some (.int (cnt (Fd ++ [useN k i j]) k i t.length : Nat)) := by
                  rw [lf4.v]
                  unfold leftC
                  rw [if_pos ⟨hk, il⟩, tS]
                  rfl
                refine ⟨F, _, rfl, ⟨lk4, lkey k i, q3, .inl lf4.d, lf4.ko, rfl, lkey_depth k5, a3, v2.symm⟩, ?_⟩
                walk_at "g"
                have FL := IC.fail xC hk ht ho xo old
                have pre2 : ∀ f ∈ (ofP (usesK tk (kvs.map (·.1))) ek).take (n + 1), f ∈ Fd ++ [useN k i j] := fun f hf => by
                  rw [tk1] at hf
                  rcases List.mem_append.mp hf with hf | hf
                  · exact List.mem_append_left _ (pre f hf)
                  · exact List.mem_append_right _ hf
                by_cases c0 : cnt (Fd ++ [useN k i j]) k i t.length = 0
                · rw [if_pos (by rw [c0]; rfl)]
                  obtain ⟨pa, rfl⟩ : ∃ pa, p = V.ref pa := by
                    obtain ⟨_, ⟨ks, e⟩, _⟩ := DF.dp k kP
                    have nu2 : NAt Hh p (.tup ks) := by rw [← e]; exact np4
                    obtain ⟨a, b, c, _⟩ := nu2.tupOf
                    exact ⟨a, c⟩
                  obtain ⟨bk2, b1, b2, b3⟩ := id SH.hb
                  refine r_nnotin ?_
                  walk_at "g"
                  refine ⟨B, _, rfl, ⟨bk2, k, pa, .inl b1, b2, rfl, Nat.le_trans k5 (by decide), np4, rfl⟩, ?_⟩
                  by_cases kb : k ∈ Bt
                  · have evb : (valN bk2 k).isSome = true := by
                      cases z : valN bk2 k with
                      | none => exact absurd kb (by rw [← b3]; exact valN_none.mp z)
                      | some _ => rfl
                    rw [evb]
                    refine ⟨_, rfl, ite_f rfl ?_⟩
                    have IH := FL.2 fun z => z.2 kb
                    exact ⟨_, _, _, _, _, Bt, Wt, _, rfl, eH, kH, UH, SH, IH, xC, pre2, hmc⟩
                  · have evb := valN_none.mpr (show k ∉ bk2.map (·.1) by rw [b3]; exact kb)
                    rw [evb]
                    refine ⟨_, rfl, ite_t rfl ?_⟩
                    have IH := FL.1 c0 kb
                    have il1 := IH.bl
                    have iw1 := IH.wl
                    rw [List.length_map] at il1 iw1
                    rw [List.length_append] at il1 iw1
                    simp only [List.length_cons, List.length_nil] at il1 iw1
                    have bl2 : bk2.length = Bt.length := by rw [← b3, List.length_map]
                    refine r_seq ?_
                    refine r_nput' ?_
                    walk_at "g"
                    refine ⟨B, upd Hh B (dN w B (putN bk2 k pa (.bl true))), rfl, ⟨bk2, k, pa, b1, b2, rfl, Nat.le_trans k5 (by decide), np4, sz_lt (by omega), rfl⟩, ?_⟩
                    have SI := SH.putB (v := .bl true) b1 b2 b3 kb (Nat.le_trans k5 (by decide)) np4
                    have kI0 : KeepL (fun a => if a = W then some (.lst []) else none) Hh (upd Hh B (dN w B (putN bk2 k pa (.bl true)))) := KeepL.at_ b1 (fun _ z => by cases z) (.inl (fun _ z => by cases z))
                    have UI := UH.kp kI0 (upd_ne nUB)
                    have eI := ex_upd (o := dN w B (putN bk2 k pa (.bl true))) eH nBH
                    have np5 := np4.tx kI0.t
                    have kI := kH.trans kI0
                    generalize (upd Hh B (dN w B (putN bk2 k pa (.bl true)))) = Hi at SI UI eI np5 kI
                    obtain ⟨wk2, w1, w2⟩ := id SI.hw
                    have wl2 := w2.len
                    walk_at "g"
                    refine ⟨_, rfl, .inl ⟨rfl, _, SqL.of w1⟩, ?_⟩
                    walk_at "g"
                    refine app_l w1 (sz_lt (by omega)) ?_
                    walk_at "g"
                    have kJ : KeepL (fun a => if a = W then some (.lst []) else none) Hi (upd Hi W (.lst (wk2 ++ [V.ref pa]))) := KeepL.at_ w1 (fun _ z => by cases z) (.inr (by rw [if_pos rfl]; intro z; cases z))
                    refine ⟨_, _, _, _, _, Bt ++ [k], Wt ++ [k], _, rfl, ex_upd eI nWH, kI.trans kJ, UI.kp kJ (upd_ne nUW), SI.setW (w2.snoc np5), IH, List.mem_append_left _ xC, pre2, ?_⟩
                    rw [List.length_append, List.length_append]
                    simp only [List.length_cons, List.length_nil]
                    omega
                · rw [if_neg (fun z => c0 (by have := of_decide_eq_true z; simpa using this))]
                  have IH := FL.2 fun z => c0 z.1
                  walk_at "g"
                  refine ⟨_, _, _, _, _, Bt, Wt, _, rfl, eH, kH, UH, SH, IH, xC, pre2, hmc⟩
            · rintro σ' Hc ⟨y3, y4, y5, y10, y11, Bt, Wt, Fd, rfl, eC, kC, UC, SC, IC, xC, pre, hmc⟩
              rw [naL.len, List.take_length] at pre
              refine ⟨2 * kvs.length + Wt.length - 2 * Bt.length, ?_, _, _, _, _, _, _, Bt, Wt, Fd, rfl, eC, UC, SC, IC.done pre, ?_⟩
              · have := IC.bl
                rw [List.length_map] at this
                omega
              · have := IC.bl
                rw [List.length_map] at this
                omega
        · intro σ' Ha R R' imp h
          obtain ⟨v, hv, k, t, r⟩ := h
          exact ⟨v, hv, k, t, imp _ _ r⟩
end

end K12

set_option Elab.async false
set_option linter.all false
set_option maxRecDepth 100000
set_option maxHeartbeats 2000000
namespace K12
open PySem PySem.Spec PyProof.Rows L2 Evl AE
local macro_rules | `(tactic| walk_at "c") => `(tactic| first | exact ⟨by decide, by decide⟩ | exact .inr ⟨by decide, by decide⟩ | exact .inl ⟨by decide, by decide⟩ | exact ⟨by decide, by decide, by decide⟩ | (show (0 : Int) < _; decide))
local macro_rules | `(tactic| walk_at "s") => `(tactic| first
  | (with_reducible refine r_var rfl ?_) | (with_reducible refine r_c ?_) | (with_reducible refine r_op ?_) | (with_reducible refine r_un ?_) | (with_reducible refine r_I0 ?_) | (with_reducible refine r_U ?_)
  | (with_reducible refine r_eq rfl ?_) | (with_reducible refine r_ne rfl ?_) | (with_reducible refine r_chain ?_) | (with_reducible refine r_test ?_) | (with_reducible refine r_tB ?_)
  | (with_reducible refine r_bl ?_) | (with_reducible refine r_and ?_) | (with_reducible refine r_or ?_) | (with_reducible refine r_not ?_) | (with_reducible refine r_nil ?_) | (with_reducible refine r_cons ?_)
  | (with_reducible refine r_tupK ?_) | (with_reducible refine r_lstK ?_) | (with_reducible refine r_cb ?_) | (with_reducible refine r_revL ?_) | (with_reducible refine r_ost ?_) | (with_reducible refine r_mkO ?_) | (with_reducible refine r_makeK ?_) | (with_reducible refine r_make ?_) | (with_reducible refine r_setdN ?_) | (with_reducible refine r_nget2 ?_) | (with_reducible refine r_nnew ?_) | (with_reducible refine r_call ?_) | (with_reducible refine r_seq ?_) | (with_reducible refine r_set ?_)
  | (with_reducible refine r_drop ?_) | (with_reducible refine r_ret ?_) | (with_reducible refine r_next ?_) | (with_reducible refine r_if ?_) | (with_reducible refine r_sl ?_) | (with_reducible refine r_nop ?_) | (with_reducible refine r_prt ?_) | (with_reducible refine r_some ?_)
  | (with_reducible refine add_int ?_) | (with_reducible refine int_i ?_) | (with_reducible refine r_forR1 ?_) | (with_reducible refine r_forR2 ?_) | (with_reducible refine r_meth ?_) | (with_reducible refine r_makeS ?_) | (with_reducible refine r_opS ?_) | (with_reducible refine r_makeRS ?_) | (with_reducible refine r_methH ?_) | (with_reducible refine r_callS ?_) | (with_reducible refine r_forL ?_) | (with_reducible refine r_andV ?_) | (with_reducible refine r_orV ?_) | (with_reducible refine r_notV ?_) | (with_reducible refine r_ifE ?_) | (with_reducible refine r_lcL ?_) | (with_reducible refine r_fld ?_) | (with_reducible refine r_get ?_) | (with_reducible refine r_din ?_) | (with_reducible refine r_dget2 ?_) | ((with_reducible refine r_I ?_ ?_); (walk_at "c")))
local macro_rules | `(tactic| walk_at "g") => `(tactic| repeat walk_at "s")
section
variable {P : Program} {w : World} {K : PySem.W.Frag} {mg : Str → Option Value} {base : Heap}
def sp_held (DU : Hp → Prop) (d : Addr) (tk : Tk) (Pl : List NK) : Sp := fun vs H Q _ => ∃ (p : Addr) (k0 : NK), vs = [.ref d, .ref p] ∧ DU H ∧ NAt H (.ref p) k0 ∧ k0 ∈ Pl ∧
  ∀ (b : Bool) H', (b = true ↔ ¬ Lose tk k0) → Ex H H' → Q (.bl b) H'
theorem ok_held (T : Tp K mg) {DU : Hp → Prop} {d C f : Addr} {fd : FuncData} {tk : Tk} {Pl : List NK} {M : Nat} (DF : DuelF tk Pl M) (hIns : ∀ H, DU H → ∃ dx fs, H d = some (.ins C dx fs) ∧ List.lookup ("tasks_at" : Str) fs = none) (hEx : ∀ H H', Ex H H' → DU H → DU H') (cD : Cls K C) (mD : Meth K C "tasks_at" f) (GD : FnOk P w K mg base CX0 5 f fd ["self", "place"] (sp_tasksAt DU d tk Pl)) (bD : Binds K fd ["self", "place"] []) :
    FnOk P w K mg base CX0 7 T.a_is_held T.d_is_held ["duel", "start"] (sp_held DU d tk Pl) := by
  have G_reached_tasks := ok_reached (w := w) T DF hIns hEx cD mD GD bD
  have G_beaten_places := ok_beaten (P := P) (w := w) (base := base) T DF
  refine T.f_is_held.ok sc_is_held (fun vs H Q E h => ?_) (fun cdv A outer s H vs Q E hr h => ?_)
  · obtain ⟨p, k0, rfl, _⟩ := h
    rfl
  · obtain ⟨p, k0, rfl, hdu, hp, hk0, q⟩ := h
    have hu64 := hu64_of hr
    refine ⟨_, (pss_cons (ps_set (i := 2) sc_is_held.nd rfl (.inl rfl) (pe_call G_reached_tasks (hr.mono (by decide)) (by rfl) T.g_reached_tasks T.f_reached_tasks.kp T.b_reached_tasks .nil pass0 (pa_cons (pv 0) (pa_cons (pv 1) pa_nil))))
  (pss_one (ps_ret (pe_cmp (pc_nnotin hu64 (pv 1) (pe_call G_beaten_places (hr.mono (by decide)) (by rfl) T.g_beaten_places T.f_beaten_places.kp T.b_beaten_places .nil pass0 (pa_cons (pv 2) pa_nil))))))), ?_⟩
    walk_at "g"
    refine ⟨p, k0, rfl, hdu, hp, hk0, fun D kvs H1 nD e1 TA cl hk => ?_⟩
    walk_at "g"
    refine r_nnotin ?_
    walk_at "g"
    refine ⟨D, H, kvs, rfl, TA, fun a z => none_ex e1 z, cl, fun B bk H2 nB e2 hB kb lo al => ?_⟩
    walk_at "g"
    have hk5 := (DF.dp k0 hk0).1
    refine ⟨B, _, rfl, ⟨bk, k0, p, .inl hB, kb, rfl, Nat.le_trans hk5 (by decide), hp.tx (ex_txn (e1.trans e2)), rfl⟩, ?_⟩
    refine q _ H2 ?_ (e1.trans e2)
    cases z : valN bk k0 with
    | none => exact ⟨fun _ l => valN_none.mp z (al k0 hk l), fun _ => rfl⟩
    | some v =>
      refine ⟨fun z => (nomatch z), fun nl => absurd ?_ nl⟩
      obtain ⟨b, hb⟩ := valN_mem z
      exact lo _ hb
end

end K12

set_option Elab.async false
set_option linter.all false
set_option maxRecDepth 100000
set_option maxHeartbeats 2000000
namespace K12
open PySem PySem.Spec PyProof.Rows L2 Evl AE
local macro_rules | `(tactic| walk_at "c") => `(tactic| first | exact ⟨by decide, by decide⟩ | exact .inr ⟨by decide, by decide⟩ | exact .inl ⟨by decide, by decide⟩ | exact ⟨by decide, by decide, by decide⟩ | (show (0 : Int) < _; decide))
local macro_rules | `(tactic| walk_at "s") => `(tactic| first
  | (with_reducible refine r_var rfl ?_) | (with_reducible refine r_c ?_) | (with_reducible refine r_op ?_) | (with_reducible refine r_un ?_) | (with_reducible refine r_I0 ?_) | (with_reducible refine r_U ?_)
  | (with_reducible refine r_eq rfl ?_) | (with_reducible refine r_ne rfl ?_) | (with_reducible refine r_chain ?_) | (with_reducible refine r_test ?_) | (with_reducible refine r_tB ?_)
  | (with_reducible refine r_bl ?_) | (with_reducible refine r_and ?_) | (with_reducible refine r_or ?_) | (with_reducible refine r_not ?_) | (with_reducible refine r_nil ?_) | (with_reducible refine r_cons ?_)
  | (with_reducible refine r_tupK ?_) | (with_reducible refine r_lstK ?_) | (with_reducible refine r_cb ?_) | (with_reducible refine r_revL ?_) | (with_reducible refine r_ost ?_) | (with_reducible refine r_mkO ?_) | (with_reducible refine r_makeK ?_) | (with_reducible refine r_make ?_) | (with_reducible refine r_setdN ?_) | (with_reducible refine r_nget2 ?_) | (with_reducible refine r_nnew ?_) | (with_reducible refine r_call ?_) | (with_reducible refine r_seq ?_) | (with_reducible refine r_set ?_)
  | (with_reducible refine r_drop ?_) | (with_reducible refine r_ret ?_) | (with_reducible refine r_next ?_) | (with_reducible refine r_if ?_) | (with_reducible refine r_sl ?_) | (with_reducible refine r_nop ?_) | (with_reducible refine r_prt ?_) | (with_reducible refine r_some ?_)
  | (with_reducible refine add_int ?_) | (with_reducible refine int_i ?_) | (with_reducible refine r_forR1 ?_) | (with_reducible refine r_forR2 ?_) | (with_reducible refine r_meth ?_) | (with_reducible refine r_makeS ?_) | (with_reducible refine r_opS ?_) | (with_reducible refine r_makeRS ?_) | (with_reducible refine r_methH ?_) | (with_reducible refine r_callS ?_) | (with_reducible refine r_forL ?_) | (with_reducible refine r_andV ?_) | (with_reducible refine r_orV ?_) | (with_reducible refine r_notV ?_) | (with_reducible refine r_ifE ?_) | (with_reducible refine r_lcL ?_) | (with_reducible refine r_fld ?_) | (with_reducible refine r_get ?_) | (with_reducible refine r_din ?_) | (with_reducible refine r_dget2 ?_) | ((with_reducible refine r_I ?_ ?_); (walk_at "c")))
local macro_rules | `(tactic| walk_at "g") => `(tactic| repeat walk_at "s")
section
variable {P : Program} {w : World} {K : PySem.W.Frag} {mg : Str → Option Value} {base : Heap}
/-! ### the duel of two patterns -/
def endsR (rows : List StepD) (b : Int) (ask : Str) : List StepD := rows.filter fun s => decide (([.inl s.1, .inr s.2.1] : List Key) = [.inl b, .inr ask])
theorem endsF_R (rows : List StepD) (b : Int) (ask : Str) : endsF rows [.inl b, .inr ask] = (endsR rows b ask).map fun s => V.int s.2.2 := rfl
theorem tcn_tv {K : PySem.W.Frag} {σ : L2.St} {H : Hp} {Q : VK} {tl : TE} {g : TG} {tt : TT} {vs : List Nat} {rs : List GR} {o0 : Addr → HO} {emD : Addr → TItem} (q : tl σ H fun v H1 => tCN o0 emD ⟨iTup K (tC v), g, tt, vs⟩ rs σ H1 Q) : tCN o0 emD ⟨iTup K tl, g, tt, vs⟩ rs σ H Q := q
theorem MachAt.mk {H : Hp} {x C : Addr} {m : Mach} (h : MachAt H x C m) : ∃ dx fs pm, H x = some (.ins C dx fs) ∧ List.lookup ("marks" : Str) fs = some (.ref pm) ∧ H pm = some (.tup (m.marks.map V.int)) := by
  obtain ⟨dx, pm, ps, de, dp, us, h1, h2, _⟩ := h
  exact ⟨dx, _, pm, h1, rfl, h2⟩
theorem MachAt.nat {H : Hp} {x C : Addr} {m : Mach} (h : MachAt H x C m) (f : Str) (n : List.lookup f [("size", V.int m.size), ("marks", .ref 0), ("steps", .ref 0), ("now", .int m.now), ("_ends", .ref 0), ("_pairs", .ref 0)] = none) : ∃ dx fs, H x = some (.ins C dx fs) ∧ List.lookup f fs = none := by
  obtain ⟨dx, pm, ps, de, dp, us, h1, _⟩ := h
  refine ⟨dx, _, h1, ?_⟩
  simp only [List.lookup] at n ⊢
  revert n
  repeat' split
  all_goals intro n
  all_goals first | rfl | (cases n)
def markG (G : Hp) (D : Addr) : Hp := fun a => if a = D then some (.lst []) else G a
theorem markG_same {G : Hp} {D : Addr} : markG G D D ≠ none := by unfold markG; rw [if_pos rfl]; intro z; cases z
theorem markG_ne {G : Hp} {D a : Addr} (h : a ≠ D) : markG G D a = G a := if_neg h
theorem markG_le {G : Hp} {D : Addr} : ∀ a, markG G D a = none → G a = none := fun a h => by
  unfold markG at h
  split at h
  · cases h
  · exact h
def tkP (m1 m2 : Mach) : Tk
  | .tup [.int a, .int b] => if a ∈ m1.marks ∧ b ∉ m2.marks then [[]] else (pairsF m1.rows (.inl a)).map fun s => (endsR m2.rows b s.2.1).map fun r => [.tup [.int s.2.2, .int r.2.2]]
  | _ => []
def DuelAt (T : Tp K mg) (d : Addr) (m1 m2 : Mach) (H : Hp) : Prop := ∃ dx f s, H d = some (.ins T.C_PatternDuel dx [("first", .ref f), ("second", .ref s)]) ∧ MachAt H f T.C_Pattern m1 ∧ MachAt H s T.C_Pattern m2
theorem DuelAt.ex {T : Tp K mg} {d : Addr} {m1 m2 : Mach} {H H' : Hp} (e : Ex H H') (h : DuelAt T d m1 m2 H) : DuelAt T d m1 m2 H' := by
  obtain ⟨dx, f, s, a, b, c⟩ := h
  exact ⟨dx, f, s, e _ _ a, b.ex e, c.ex e⟩
def sp_dinit (T : Tp K mg) : Sp := fun vs H Q _ => ∃ (x dx f s : Addr), vs = [.ref x, .ref f, .ref s] ∧ H x = some (.ins T.C_PatternDuel dx []) ∧ ∀ H', Ch x H H' → H' x = some (.ins T.C_PatternDuel dx [("first", .ref f), ("second", .ref s)]) → Q .non H'
theorem ok_dinit (T : Tp K mg) : FnOk P w K mg base CX0 1 T.a_PatternDuel___init__ T.d_PatternDuel___init__ ["self", "first", "second"] (sp_dinit T) := by
  refine T.f_PatternDuel___init__.ok sc_PatternDuel___init__ (fun vs H Q E h => ?_) (fun cdv A outer s H vs Q E hr h => ?_)
  · obtain ⟨x, dx, f, s, rfl, _⟩ := h
    rfl
  · obtain ⟨x, dx, f, s, rfl, hx, q⟩ := h
    refine ⟨_, (pss_cons (ps_fld (pv 0) (pv 1) rfl)
  (pss_one (ps_fld (pv 0) (pv 2) rfl))), ?_⟩
    walk_at "g"
    refine stf_go hx T.cl_PatternDuel T.na_PatternDuel_first (by decide) fun H1 c1 h1 => ?_
    walk_at "g"
    refine stf_go h1 T.cl_PatternDuel T.na_PatternDuel_second (by show 1 < 1000; decide) fun H2 c2 h2 => ?_
    walk_at "g"
    exact q H2 (Ch.trans c1 c2) h2
theorem its_snoc {α : Type} {R : V → α → Prop} {acc : List V} {l : List α} {u : V} {x : α} (len : acc.length = l.length) (h : ∀ (m : Nat) (o : α), l[m]? = some o → ∃ v, acc[m]? = some v ∧ R v o) (hx : R u x) : ∀ (m : Nat) (o : α), (l ++ [x])[m]? = some o → ∃ v, (acc ++ [u])[m]? = some v ∧ R v o := fun m o hm => by
  by_cases z : m < l.length
  · rw [List.getElem?_append_left z] at hm
    obtain ⟨v, a, b⟩ := h m o hm
    exact ⟨v, by rw [List.getElem?_append_left (by omega)]; exact a, b⟩
  · rw [List.getElem?_append_right (by omega)] at hm
    have lt := (List.getElem?_eq_some_iff.mp hm).1
    simp only [List.length_cons, List.length_nil] at lt
    have e : m - l.length = 0 := by omega
    rw [e] at hm
    cases hm
    exact ⟨u, by rw [List.getElem?_append_right (by omega), len, e]; rfl, hx⟩
theorem its_kp {α : Type} {R R' : V → α → Prop} {acc : List V} {l : List α} (i : ∀ v o, R v o → R' v o) (h : ∀ (m : Nat) (o : α), l[m]? = some o → ∃ v, acc[m]? = some v ∧ R v o) : ∀ (m : Nat) (o : α), l[m]? = some o → ∃ v, acc[m]? = some v ∧ R' v o := fun m o hm => (h m o hm).imp fun v z => ⟨z.1, i _ _ z.2⟩
theorem ptail (T : Tp K mg) {H : Hp} {Q : VK} {d f s' p dx : Addr} {m1 m2 : Mach} {a b : Int} (hd : H d = some (.ins T.C_PatternDuel dx [("first", .ref f), ("second", .ref s')])) (m1A : MachAt H f T.C_Pattern m1) (m2A : MachAt H s' T.C_Pattern m2) (hr1 : m1.rows.length ≤ 600) (hr2 : m2.rows.length ≤ 600)
    (q : ∀ v H', Ex H H' → SAt H H' v ((pairsF m1.rows (.inl a)).map fun s => (endsR m2.rows b s.2.1).map fun r => [.tup [.int s.2.2, .int r.2.2]]) → Q v H') :
    tCN (fun _ => .lst []) (emL (tCN (fun _ => .lst []) (emL (tLst (tCons (tTup (tCons (tVar 6) (tCons (tVar 4) tNil))) tNil))) ⟨iTup K (tMeth T.C_Pattern "ends_at" (sp_endsAt K) [] E0 (tFld K (tVar 0) "second") (tCons (tVar 3) (tCons (tVar 5) tNil))), gName 4, tYes, [4]⟩ [])) ⟨iTup K (tMeth T.C_Pattern "pairs_at" (sp_pairsAt K) [] E0 (tFld K (tVar 0) "first") (tCons (tVar 2) tNil)), gTup K 2 (gCons (gName 5) (gCons (gName 6) gNil)), tYes, [5, 6]⟩ []
      [some (.ref d), some (.ref p), some (.int a), some (.int b), none, none, none] H Q := by
  refine tcn_tv ?_
  walk_at "g"
  refine gtf_go hd T.cl_PatternDuel T.na_PatternDuel_first (v := .ref f) rfl ?_
  obtain ⟨dx1, fs1, hf, nf⟩ := m1A.nat "pairs_at" rfl
  refine ⟨f, dx1, fs1, rfl, hf, nf, ?_⟩
  walk_at "g"
  refine ⟨f, T.C_Pattern, m1, a, rfl, T.cf_Pattern, m1A, fun pp us H1 e1 hpp tps => ?_⟩
  have lus := tps.len
  rw [List.length_map] at lus
  refine tcn_t (a := pp) (xs := us) (fun D i Ha => H1 D = none ∧ Ex H1 Ha ∧ ∃ acc, Ha D = some (.lst acc) ∧ acc.length = i ∧ ∀ (j : Nat) (t : List (List NK)), (((pairsF m1.rows (.inl a)).map fun s => (endsR m2.rows b s.2.1).map fun r => [NK.tup [.int s.2.2, .int r.2.2]]).take i)[j]? = some t → ∃ u, acc[j]? = some u ∧ TAt (markG H D) Ha u t)
    (fun R r => r) (.inl (.inl hpp)) (fun D hD => ⟨hD, Ex.new hD, [], upd_same, rfl, fun j t h => by rw [List.take_zero] at h; cases h⟩) (fun D i Ha _ p => .inl (.inl (p.2.1 _ _ hpp))) ?_ ?_
  · rintro D i x Ha hx ⟨nD, eA, acc, hD, la, it⟩
    obtain ⟨z, hz, tp⟩ := tps.get hx
    rw [List.getElem?_map] at hz
    obtain ⟨st, hst, rfl⟩ := Option.map_eq_some_iff.mp hz
    have step : ((pairsF m1.rows (.inl a)).map fun s => (endsR m2.rows b s.2.1).map fun r => [NK.tup [.int s.2.2, .int r.2.2]]).take (i + 1) = ((pairsF m1.rows (.inl a)).map fun s => (endsR m2.rows b s.2.1).map fun r => [NK.tup [.int s.2.2, .int r.2.2]]).take i ++ [(endsR m2.rows b st.2.1).map fun r => [NK.tup [.int st.2.2, .int r.2.2]]] := by
      rw [List.take_add_one, List.getElem?_map, hst]
      rfl
    rw [step]
    obtain ⟨xa, rfl, hxa⟩ := tp.tx (tx_ex eA)
    refine gtup2 hxa (gnames2 ⟨rfl, yes_q (ite_t rfl ?_)⟩)
    unfold tIn
    unfold emL
    refine tcn_tv ?_
    walk_at "g"
    have m2B := m2A.ex (e1.trans eA)
    refine gtf_go ((e1.trans eA) _ _ hd) T.cl_PatternDuel T.na_PatternDuel_second (v := .ref s') rfl ?_
    obtain ⟨dx2, fs2, hs, ns⟩ := m2B.nat "ends_at" rfl
    refine ⟨s', dx2, fs2, rfl, hs, ns, ?_⟩
    walk_at "g"
    refine ⟨s', T.C_Pattern, m2, b, st.2.1, rfl, T.cf_Pattern, m2B, fun ep Hb eB hep => ?_⟩
    rw [endsF_R] at hep
    have il : i < (pairsF m1.rows (.inl a)).length := (List.getElem?_eq_some_iff.mp hst).1
    have l1 : (pairsF m1.rows (.inl a)).length ≤ 600 := Nat.le_trans (List.length_filter_le _ _) hr1
    have l2 : (endsR m2.rows b st.2.1).length ≤ 600 := Nat.le_trans (List.length_filter_le _ _) hr2
    refine tcn_t (a := ep) (xs := (endsR m2.rows b st.2.1).map fun s => V.int s.2.2) (fun E j Hc => Hb E = none ∧ Ex Hb Hc ∧ ∃ acc2, Hc E = some (.lst acc2) ∧ acc2.length = j ∧ ∀ (m : Nat) (o : List NK), (((endsR m2.rows b st.2.1).map fun r => [NK.tup [.int st.2.2, .int r.2.2]]).take j)[m]? = some o → ∃ u, acc2[m]? = some u ∧ OAt (markG (markG H D) E) Hc u o)
      (fun R r => r) (.inl (.inl hep)) (fun E hE => ⟨hE, Ex.new hE, [], upd_same, rfl, fun j t h => by rw [List.take_zero] at h; cases h⟩) (fun E j Hc _ p => .inl (.inl (p.2.1 _ _ hep))) ?_ ?_
    · rintro E j y Hc hy ⟨nE, eC, acc2, hE, la2, it2⟩
      rw [List.getElem?_map] at hy
      obtain ⟨rr, hrr, rfl⟩ := Option.map_eq_some_iff.mp hy
      have jl : j < (endsR m2.rows b st.2.1).length := (List.getElem?_eq_some_iff.mp hrr).1
      have step2 : ((endsR m2.rows b st.2.1).map fun r => [NK.tup [.int st.2.2, .int r.2.2]]).take (j + 1) = ((endsR m2.rows b st.2.1).map fun r => [NK.tup [.int st.2.2, .int r.2.2]]).take j ++ [[NK.tup [.int st.2.2, .int rr.2.2]]] := by
        rw [List.take_add_one, List.getElem?_map, hrr]
        rfl
      rw [step2]
      refine gname1 ⟨rfl, yes_q (ite_t rfl ?_)⟩
      unfold tIn
      walk_at "g"
      refine tup_go (ks := [.int st.2.2, .int rr.2.2]) (.cons (.int _) (.cons (.int _) .nil)) fun tp Hd nt eD aD _ => ?_
      walk_at "g"
      refine lst_go fun ol He no eE hO => ?_
      have eCE := (eC.trans eD).trans eE
      have hE2 := (eD.trans eE) _ _ hE
      refine ⟨acc2, hE2, sz_lt (by omega), nE, ex_upd eCE nE, acc2 ++ [.ref ol], upd_same, by rw [List.length_append, la2]; rfl, ?_⟩
      have kp : KeepL (markG (markG H D) E) He (upd He E (.lst (acc2 ++ [.ref ol]))) := KeepL.at_ hE2 (fun _ z => by cases z) (.inr markG_same)
      have nDE : D ≠ E := fun z => by rw [← z, eB _ _ hD] at nE; cases nE
      have noE : ol ≠ E := fun z => by rw [z, eD _ _ hE] at no; cases no
      have noD : ol ≠ D := fun z => by rw [z, eD _ _ (eC _ _ (eB _ _ hD))] at no; cases no
      refine its_snoc (by rw [la2, List.length_take, List.length_map]; omega) (its_kp (fun v o h => (h.kp (KeepL.ex (eD.trans eE))).kp kp) it2) ?_
      exact OAt.kp kp ⟨ol, [.ref tp], rfl, by rw [markG_ne noE, markG_ne noD]; exact none_ex ((((e1.trans eA).trans eB).trans eC).trans eD) no, hO, .cons (aD.tx (ex_txn eE)) .nil⟩
    · rintro E Hc ⟨nE, eC, acc2, hE, la2, it2⟩
      rw [List.length_map] at la2 it2
      rw [← List.length_map (as := endsR m2.rows b st.2.1) (f := fun r : StepD => [NK.tup [.int st.2.2, .int r.2.2]]), List.take_length] at it2
      have hDc := eC _ _ (eB _ _ hD)
      have nED : E ≠ D := fun z => by rw [z, eB _ _ hD] at nE; cases nE
      refine ⟨acc, hDc, sz_lt (by omega), nD, ex_upd ((eA.trans eB).trans eC) nD, acc ++ [.ref E], upd_same, by rw [List.length_append, la]; rfl, ?_⟩
      have kp : KeepL (markG H D) Hc (upd Hc D (.lst (acc ++ [.ref E]))) := KeepL.at_ hDc (fun _ z => by cases z) (.inr markG_same)
      refine its_snoc (by rw [la, List.length_take, List.length_map]; omega) (its_kp (fun v o h => (h.kp (KeepL.ex (eB.trans eC))).kp kp) it) ?_
      exact TAt.kp kp ⟨E, acc2, rfl, by rw [markG_ne nED]; exact none_ex ((e1.trans eA).trans eB) nE, hE, by rw [la2, List.length_map], its_kp (fun v o h => h.gm markG_le) it2⟩
  · rintro D Ha ⟨nD, eA, acc, hD, la, it⟩
    rw [lus, ← List.length_map (f := fun s : StepD => (endsR m2.rows b s.2.1).map fun r => [NK.tup [.int s.2.2, .int r.2.2]]), List.take_length] at it
    refine q (.ref D) Ha (e1.trans eA) ⟨D, acc, rfl, none_ex e1 nD, hD, by rw [la, lus, List.length_map], fun j t h => ?_⟩
    obtain ⟨u, h1, h2⟩ := it j t h
    exact ⟨u, h1, h2.gm markG_le⟩
theorem ok_ptasks (T : Tp K mg) {d : Addr} {m1 m2 : Mach} {Pl : List NK} (hPl : ∀ k ∈ Pl, ∃ a b : Int, k = .tup [.int a, .int b]) (hr1 : m1.rows.length ≤ 600) (hr2 : m2.rows.length ≤ 600) : FnOk P w K mg base CX0 5 T.a_PatternDuel_tasks_at T.d_PatternDuel_tasks_at ["self", "place"] (sp_tasksAt (DuelAt T d m1 m2) d (tkP m1 m2) Pl) := by
  have G_ends_at : FnOk P w K mg base CX0 1 T.a_Machine_ends_at T.d_Machine_ends_at ["self", "state", "ask"] (sp_endsAt K) := ok_endsAt T
  have G_pairs_at : FnOk P w K mg base CX0 1 T.a_Machine_pairs_at T.d_Machine_pairs_at ["self", "state"] (sp_pairsAt K) := ok_pairsAt T
  refine T.f_PatternDuel_tasks_at.ok sc_PatternDuel_tasks_at (fun vs H Q E h => ?_) (fun cdv A outer s H vs Q E hr h => ?_)
  · obtain ⟨p, k, rfl, _⟩ := h
    rfl
  · obtain ⟨p, k, rfl, hdu, hp, hk, q⟩ := h
    have hu64 := hu64_of hr
    refine ⟨_, (pss_cons (ps_asg (pv 1) (pg_tup (by rfl) (pgs_cons (pg_name (i := 2) sc_PatternDuel_tasks_at.nd rfl (.inl rfl)) (pgs_cons (pg_name (i := 3) sc_PatternDuel_tasks_at.nd rfl (.inr rfl)) pgs_nil))))
  (pss_cons (ps_if (PW.pt (pw_and (pt_cmpR op_in_seq (pv 2) (pe_fld (pe_fld (pv 0) rfl) rfl) rfl) (pw_and1 (pt_cmpR op_notIn_seq (pv 3) (pe_fld (pe_fld (pv 0) rfl) rfl) rfl)))) (pss_one (ps_ret (pe_lst (pa_cons (pe_lst pa_nil) pa_nil)))) pss_nil)
  (pss_one (ps_ret (pe_lcN (own := [("ask", 5), ("way", 6)]) (g := gTup K 2 (gCons (gName 5) (gCons (gName 6) gNil))) (tt := tYes) rfl sc_PatternDuel_tasks_at.nd (pi_tup (pe_meth (pe_fld (pv 0) rfl) T.cf_Pattern.cl T.me_Pattern_pairs_at G_pairs_at (hr.mono (by decide)) T.b_Machine_pairs_at .nil pass0 (pa_cons (pv 2) pa_nil))) (blkOk_by (N := N_PatternDuel_tasks_at) (sc := defScope s_PatternDuel_tasks_at) (by decide +kernel)) (by exact True.intro) (fun _ _ _ _ _ => (pg_tup (by rfl) (pgs_cons (pg_name (i := 5) sc_PatternDuel_tasks_at.nd rfl (.inl rfl)) (pgs_cons (pg_name (i := 6) sc_PatternDuel_tasks_at.nd rfl (.inr rfl)) pgs_nil)))) (fun _ _ _ _ _ => pts_nil) (fun _ _ _ _ _ => GensOk.nil) (fun _ _ _ _ _ => (pe_lcN (own := [("other", 4)]) (g := gName 4) (tt := tYes) rfl sc_PatternDuel_tasks_at.nd (pi_tupK (K := K) (pe_meth (pe_fldK (K := K) (pv 0) rfl) T.cf_Pattern.cl T.ea_Pattern G_ends_at (hr.mono (by decide)) T.b_Machine_ends_at .nil pass0 (pa_cons (pv 3) (pa_cons (pv 5) pa_nil)))) (blkOk_by (N := N_PatternDuel_tasks_at) (sc := { kind := .function, names := [(".0", .local), ("ask", .local), ("way", .cell), ("self", .cell), ("theirs", .cell)], isGenerator := false, isCoroutine := false }) (by decide +kernel)) (by exact True.intro) (fun _ _ _ _ _ => (pg_name (i := 4) sc_PatternDuel_tasks_at.nd rfl (.inl rfl))) (fun _ _ _ _ _ => pts_nil) (fun _ _ _ _ _ => GensOk.nil) (fun _ _ _ _ _ => (pe_lst (pa_cons (pe_tup (pa_cons (pv 6) (pa_cons (pv 4) pa_nil))) pa_nil)))))))))), ?_⟩
    walk_at "g"
    obtain ⟨dx, f, s', hd, m1A, m2A⟩ := id hdu
    obtain ⟨a, b, rfl⟩ := hPl k hk
    obtain ⟨pp, px, e, hpx, npx⟩ := id hp.tupOf
    cases e
    cases npx with
    | cons n1 nr =>
    cases nr with
    | cons n2 nr =>
    cases nr
    cases n1
    cases n2
    refine r_asgT (r_var rfl (gtup2 hpx (gnames2 ?_)))
    walk_at "g"
    obtain ⟨dx1, fs1, pm1, hf, lf, hpm1⟩ := m1A.mk
    obtain ⟨dx2, fs2, pm2, hs, ls, hpm2⟩ := m2A.mk
    have mc := T.cf_Pattern
    refine gtf_go hd T.cl_PatternDuel T.na_PatternDuel_first (v := .ref f) rfl ?_
    refine gtf_go hf mc.cl mc.n2 (v := .ref pm1) lf ?_
    refine ⟨pm1, m1.marks.map V.int, rfl, .inr (.inl (.inl hpm1)), rfl, flat_ints _, ?_⟩
    rw [inV_int]
    refine ⟨_, rfl, ?_⟩
    have second : ∀ R : VK, R (.bl (!decide (b ∈ m2.marks))) H → GtF K "second" (.ref d) H fun x H1 => GtF K "marks" x H1 fun y H2 => rIn K true (V.int b) y H2 R := fun R r => by
      refine gtf_go hd T.cl_PatternDuel T.na_PatternDuel_second (v := .ref s') rfl ?_
      refine gtf_go hs mc.cl mc.n2 (v := .ref pm2) ls ?_
      refine ⟨pm2, m2.marks.map V.int, rfl, .inr (.inl (.inl hpm2)), rfl, flat_ints _, ?_⟩
      rw [inV_int]
      exact r
    by_cases z : a ∈ m1.marks ∧ b ∉ m2.marks
    · refine ite_t (show decide (a ∈ m1.marks) = true from decide_eq_true z.1) ?_
      walk_at "g"
      refine second _ ?_
      refine ⟨_, rfl, ite_t (by rw [decide_eq_false z.2]; rfl) ?_⟩
      walk_at "g"
      refine lst_go fun p1 H1 np1 e1 hp1 => ?_
      walk_at "g"
      refine lst_go fun p2 H2 np2 e2 hp2 => ?_
      walk_at "g"
      refine q (.ref p2) H2 (e1.trans e2) ?_
      have e : tkP m1 m2 (.tup [.int a, .int b]) = [[]] := by unfold tkP; exact if_pos z
      rw [e]
      refine ⟨p2, _, rfl, none_ex e1 np2, hp2, rfl, fun i t h => ?_⟩
      cases i with
      | succ i => cases h
      | zero =>
        cases h
        exact ⟨_, rfl, p1, [], rfl, np1, e2 _ _ hp1, rfl, fun i o h => nomatch h⟩
    · have ek : tkP m1 m2 (.tup [.int a, .int b]) = ((pairsF m1.rows (.inl a)).map fun s => (endsR m2.rows b s.2.1).map fun r => [.tup [.int s.2.2, .int r.2.2]]) := by unfold tkP; exact if_neg z
      by_cases za : a ∈ m1.marks
      · have zb : b ∈ m2.marks := Decidable.of_not_not fun y => z ⟨za, y⟩
        refine ite_t (show decide (a ∈ m1.marks) = true from decide_eq_true za) ?_
        walk_at "g"
        refine second _ ?_
        refine ⟨_, rfl, ite_f (by rw [decide_eq_true zb]; rfl) ?_⟩
        walk_at "g"
        refine ptail T hd m1A m2A hr1 hr2 fun v H' e' sv => q v H' e' ?_
        rw [ek]
        exact sv
      · refine ite_f (show decide (a ∈ m1.marks) = false from decide_eq_false za) ?_
        refine ite_f rfl ?_
        walk_at "g"
        refine ptail T hd m1A m2A hr1 hr2 fun v H' e' sv => q v H' e' ?_
        rw [ek]
        exact sv
end

end K12

set_option Elab.async false
set_option linter.all false
set_option maxRecDepth 100000
set_option maxHeartbeats 2000000
namespace K12
open PySem PySem.Spec PyProof.Rows L2 Evl AE
local macro_rules | `(tactic| walk_at "c") => `(tactic| first | exact ⟨by decide, by decide⟩ | exact .inr ⟨by decide, by decide⟩ | exact .inl ⟨by decide, by decide⟩ | exact ⟨by decide, by decide, by decide⟩ | (show (0 : Int) < _; decide))
local macro_rules | `(tactic| walk_at "s") => `(tactic| first
  | (with_reducible refine r_var rfl ?_) | (with_reducible refine r_c ?_) | (with_reducible refine r_op ?_) | (with_reducible refine r_un ?_) | (with_reducible refine r_I0 ?_) | (with_reducible refine r_U ?_)
  | (with_reducible refine r_eq rfl ?_) | (with_reducible refine r_ne rfl ?_) | (with_reducible refine r_chain ?_) | (with_reducible refine r_test ?_) | (with_reducible refine r_tB ?_)
  | (with_reducible refine r_bl ?_) | (with_reducible refine r_and ?_) | (with_reducible refine r_or ?_) | (with_reducible refine r_not ?_) | (with_reducible refine r_nil ?_) | (with_reducible refine r_cons ?_)
  | (with_reducible refine r_tupK ?_) | (with_reducible refine r_lstK ?_) | (with_reducible refine r_cb ?_) | (with_reducible refine r_revL ?_) | (with_reducible refine r_ost ?_) | (with_reducible refine r_mkO ?_) | (with_reducible refine r_makeK ?_) | (with_reducible refine r_make ?_) | (with_reducible refine r_setdN ?_) | (with_reducible refine r_nget2 ?_) | (with_reducible refine r_nnew ?_) | (with_reducible refine r_call ?_) | (with_reducible refine r_seq ?_) | (with_reducible refine r_set ?_)
  | (with_reducible refine r_drop ?_) | (with_reducible refine r_ret ?_) | (with_reducible refine r_next ?_) | (with_reducible refine r_if ?_) | (with_reducible refine r_sl ?_) | (with_reducible refine r_nop ?_) | (with_reducible refine r_prt ?_) | (with_reducible refine r_some ?_)
  | (with_reducible refine add_int ?_) | (with_reducible refine int_i ?_) | (with_reducible refine r_forR1 ?_) | (with_reducible refine r_forR2 ?_) | (with_reducible refine r_meth ?_) | (with_reducible refine r_makeS ?_) | (with_reducible refine r_opS ?_) | (with_reducible refine r_makeRS ?_) | (with_reducible refine r_methH ?_) | (with_reducible refine r_callS ?_) | (with_reducible refine r_forL ?_) | (with_reducible refine r_andV ?_) | (with_reducible refine r_orV ?_) | (with_reducible refine r_notV ?_) | (with_reducible refine r_ifE ?_) | (with_reducible refine r_lcL ?_) | (with_reducible refine r_fld ?_) | (with_reducible refine r_get ?_) | (with_reducible refine r_din ?_) | (with_reducible refine r_dget2 ?_) | ((with_reducible refine r_I ?_ ?_); (walk_at "c")))
local macro_rules | `(tactic| walk_at "g") => `(tactic| repeat walk_at "s")
section
variable {X : Cx} {f C : Addr} {fd : FuncData} {ps : List Str} {sp : Sp} {CX : CXT} {k : Nat} {E : XK}
/-- a <= b by an own __le__, both of one class -/
theorem op_leO (hs : PySem.W.findIn X.K (.ref C) "__le__" = some (some (.ref f))) (hf : PySem.W.isFn X.K (.ref f) = true) (hn : PySem.W.notFirst X.K C (.ref C) = true) (F : FnOk X.prog X.w X.K X.mg X.base CX k f fd ps sp) (hr : Room k X.A) (hb : Binds X.K fd ps []) (hx : Passes CX X E) :
    OpR X (compareOp .LtE) (rBinO C sp E) := by
  rintro pins s σ H x y v u Q I rx ry ⟨a, b, dx, dy, fs, gs, rfl, rfl, ha, hbb, q⟩
  cases rx
  cases ry
  obtain ⟨od, J⟩ := inst_in I ha
  obtain ⟨od2, J2⟩ := inst_in I hbb
  obtain ⟨m, hF⟩ := I.fr
  exact PySem.W.cmp_K (op := .LtE) (tb := .ref C) hr.units0 hF I.ok.mod.kin J J2.type hn hs hf (wpAny_mono (run_deep (vs := [.ref a, .ref b]) F hr I.env0 hb hx I (.cons rfl (.cons rfl .nil)) q) (fun r s1 hr => back_of hr) fun _ _ y => y)
end
section
variable {P : Program} {w : World} {K : PySem.W.Frag} {mg : Str → Option Value} {base : Heap}
def sp_held2 (T : Tp K mg) : Sp := fun vs H Q E => ∃ (d : Addr) (m1 m2 : Mach) (Pl : List NK) (M : Nat), DuelF (tkP m1 m2) Pl M ∧ (∀ k ∈ Pl, ∃ a b : Int, k = .tup [.int a, .int b]) ∧ m1.rows.length ≤ 600 ∧ m2.rows.length ≤ 600 ∧ sp_held (DuelAt T d m1 m2) d (tkP m1 m2) Pl vs H Q E
theorem ok_held2 (T : Tp K mg) : FnOk P w K mg base CX0 7 T.a_is_held T.d_is_held ["duel", "start"] (sp_held2 T) := by
  have F : ∀ (d : Addr) (m1 m2 : Mach) (Pl : List NK) (M : Nat), DuelF (tkP m1 m2) Pl M → (∀ k ∈ Pl, ∃ a b : Int, k = .tup [.int a, .int b]) → m1.rows.length ≤ 600 → m2.rows.length ≤ 600 → FnOk P w K mg base CX0 7 T.a_is_held T.d_is_held ["duel", "start"] (sp_held (DuelAt T d m1 m2) d (tkP m1 m2) Pl) := fun d m1 m2 Pl M DF hPl h1 h2 =>
    ok_held T DF (fun H h => by
      obtain ⟨dx, f, s, a, _⟩ := h
      exact ⟨dx, _, a, rfl⟩) (fun _ _ e h => h.ex e) T.cl_PatternDuel T.me_PatternDuel_tasks_at (ok_ptasks T hPl h1 h2) T.b_PatternDuel_tasks_at
  refine ⟨fun vs H Q E ⟨d, m1, m2, Pl, M, DF, hPl, h1, h2, h⟩ => (F d m1 m2 Pl M DF hPl h1 h2).len _ _ _ _ h, ?_⟩
  rintro A outer s H args us vs Q E hr he hb hv ⟨d, m1, m2, Pl, M, DF, hPl, h1, h2, h⟩
  exact (F d m1 m2 Pl M DF hPl h1 h2).run A outer s H args us vs Q E hr he hb hv h
def sp_le (T : Tp K mg) : Sp := fun vs H Q _ => ∃ (x o : Addr) (m1 m2 : Mach) (Pl : List NK) (M : Nat), vs = [.ref x, .ref o] ∧ MachAt H x T.C_Pattern m1 ∧ MachAt H o T.C_Pattern m2 ∧ DuelF (tkP m1 m2) Pl M ∧ (∀ k ∈ Pl, ∃ a b : Int, k = .tup [.int a, .int b]) ∧ m1.rows.length ≤ 600 ∧ m2.rows.length ≤ 600 ∧ NK.tup [.int m1.now, .int m2.now] ∈ Pl ∧
  ∀ (b : Bool) H', (b = true ↔ ¬ Lose (tkP m1 m2) (.tup [.int m1.now, .int m2.now])) → Ex H H' → Q (.bl b) H'
theorem MachAt.nw {H : Hp} {x C : Addr} {m : Mach} (h : MachAt H x C m) : ∃ dx fs, H x = some (.ins C dx fs) ∧ List.lookup ("now" : Str) fs = some (.int m.now) := by
  obtain ⟨dx, pm, ps, de, dp, us, h1, _⟩ := h
  exact ⟨dx, _, h1, rfl⟩
theorem ok_le (T : Tp K mg) : FnOk P w K mg base CX0 9 T.a_Pattern___le__ T.d_Pattern___le__ ["self", "other"] (sp_le T) := by
  have G_is_held : FnOk P w K mg base CX0 7 T.a_is_held T.d_is_held ["duel", "start"] (sp_held2 T) := ok_held2 T
  have G_dinit : FnOk P w K mg base CX0 1 T.a_PatternDuel___init__ T.d_PatternDuel___init__ ["self", "first", "second"] (sp_dinit T) := ok_dinit T
  refine T.f_Pattern___le__.ok sc_Pattern___le__ (fun vs H Q E h => ?_) (fun cdv A outer s H vs Q E hr h => ?_)
  · obtain ⟨x, o, m1, m2, Pl, M, rfl, _⟩ := h
    rfl
  · obtain ⟨x, o, m1, m2, Pl, M, rfl, hx, ho, DF, hPl, h1, h2, hs, q⟩ := h
    refine ⟨_, (pss_cons (ps_if (pt_not (pt_val (pe_callB (C8.call_isC ⟨T.cl_Pattern, T.cc_Pattern.o1, T.cc_Pattern.o2, T.cc_Pattern.o3, T.cc_Pattern.o4, T.is_Pattern_Pattern⟩) (by rfl) T.n_isinstance (by rfl) (pa_cons (pv 1) (pa_cons (pe_glob rfl T.g_Pattern (show RelV (.ref T.C_Pattern) (.ref T.C_Pattern) from rfl)) pa_nil))))) (pss_one ps_never) pss_nil)
  (pss_one (ps_ret (pe_call G_is_held (hr.mono (by decide)) (by rfl) T.g_is_held T.f_is_held.kp T.b_is_held .nil pass0 (pa_cons (pe_make T.mk_PatternDuel G_dinit (hr.mono (by decide)) (by rfl) T.g_PatternDuel T.b_PatternDuel___init__ .nil pass0 (pa_cons (pv 0) (pa_cons (pv 1) pa_nil))) (pa_cons (pe_tup (pa_cons (pe_fld (pv 0) rfl) (pa_cons (pe_fld (pv 1) rfl) pa_nil))) pa_nil)))))), ?_⟩
    walk_at "g"
    obtain ⟨dx1, fs1, hfx, nx⟩ := hx.nw
    obtain ⟨dx2, fs2, hfo, no⟩ := ho.nw
    have mc := T.cf_Pattern
    refine ⟨o, dx2, fs2, rfl, hfo, _, rfl, ite_f rfl ?_⟩
    walk_at "g"
    refine fun a dx na ndx ne => ⟨a, dx, x, o, rfl, upd_same, fun H1 c1 hd => ⟨rfl, ?_⟩⟩
    have e1 : Ex H H1 := fun b o hb => c1 b o (fun z => by rw [z, na] at hb; cases hb) (by rw [upd_ne (fun z => by rw [z, na] at hb; cases hb), upd_ne (fun z => by rw [z, ndx] at hb; cases hb)]; exact hb)
    walk_at "g"
    refine gtf_go (e1 _ _ hfx) mc.cl mc.n4 (v := .int m1.now) nx ?_
    walk_at "g"
    refine gtf_go (e1 _ _ hfo) mc.cl mc.n4 (v := .int m2.now) no ?_
    walk_at "g"
    refine tup_go (ks := [.int m1.now, .int m2.now]) (.cons (.int _) (.cons (.int _) .nil)) fun tp H2 nt e2 aT _ => ?_
    walk_at "g"
    refine ⟨a, m1, m2, Pl, M, DF, hPl, h1, h2, tp, _, rfl, ⟨dx, x, o, e2 _ _ hd, hx.ex (e1.trans e2), ho.ex (e1.trans e2)⟩, aT, hs, fun b H3 hb e3 => ?_⟩
    exact q b H3 hb ((e1.trans e2).trans e3)
end

end K12

set_option Elab.async false
set_option linter.all false
set_option maxRecDepth 100000
set_option maxHeartbeats 2000000
namespace K12
open PySem PySem.Spec PyProof.Rows L2 Evl AE
local macro_rules | `(tactic| walk_at "c") => `(tactic| first | exact ⟨by decide, by decide⟩ | exact .inr ⟨by decide, by decide⟩ | exact .inl ⟨by decide, by decide⟩ | exact ⟨by decide, by decide, by decide⟩ | (show (0 : Int) < _; decide))
local macro_rules | `(tactic| walk_at "s") => `(tactic| first
  | (with_reducible refine r_var rfl ?_) | (with_reducible refine r_c ?_) | (with_reducible refine r_op ?_) | (with_reducible refine r_un ?_) | (with_reducible refine r_I0 ?_) | (with_reducible refine r_U ?_)
  | (with_reducible refine r_eq rfl ?_) | (with_reducible refine r_ne rfl ?_) | (with_reducible refine r_chain ?_) | (with_reducible refine r_test ?_) | (with_reducible refine r_tB ?_)
  | (with_reducible refine r_bl ?_) | (with_reducible refine r_and ?_) | (with_reducible refine r_or ?_) | (with_reducible refine r_not ?_) | (with_reducible refine r_nil ?_) | (with_reducible refine r_cons ?_)
  | (with_reducible refine r_tupK ?_) | (with_reducible refine r_lstK ?_) | (with_reducible refine r_cb ?_) | (with_reducible refine r_revL ?_) | (with_reducible refine r_ost ?_) | (with_reducible refine r_mkO ?_) | (with_reducible refine r_makeK ?_) | (with_reducible refine r_make ?_) | (with_reducible refine r_setdN ?_) | (with_reducible refine r_nget2 ?_) | (with_reducible refine r_nnew ?_) | (with_reducible refine r_call ?_) | (with_reducible refine r_seq ?_) | (with_reducible refine r_set ?_)
  | (with_reducible refine r_drop ?_) | (with_reducible refine r_ret ?_) | (with_reducible refine r_next ?_) | (with_reducible refine r_if ?_) | (with_reducible refine r_sl ?_) | (with_reducible refine r_nop ?_) | (with_reducible refine r_prt ?_) | (with_reducible refine r_some ?_)
  | (with_reducible refine add_int ?_) | (with_reducible refine int_i ?_) | (with_reducible refine r_forR1 ?_) | (with_reducible refine r_forR2 ?_) | (with_reducible refine r_meth ?_) | (with_reducible refine r_makeS ?_) | (with_reducible refine r_opS ?_) | (with_reducible refine r_makeRS ?_) | (with_reducible refine r_methH ?_) | (with_reducible refine r_callS ?_) | (with_reducible refine r_forL ?_) | (with_reducible refine r_andV ?_) | (with_reducible refine r_orV ?_) | (with_reducible refine r_notV ?_) | (with_reducible refine r_ifE ?_) | (with_reducible refine r_lcL ?_) | (with_reducible refine r_fld ?_) | (with_reducible refine r_get ?_) | (with_reducible refine r_din ?_) | (with_reducible refine r_dget2 ?_) | ((with_reducible refine r_I ?_ ?_); (walk_at "c")))
local macro_rules | `(tactic| walk_at "g") => `(tactic| repeat walk_at "s")
section
variable {P : Program} {w : World} {K : PySem.W.Frag} {mg : Str → Option Value} {base : Heap}
/-- parts of a pattern, in any order, some of them twice -/
structure OkQ (p : PlainD) : Prop where
  n1 : 1 ≤ p.n
  n5 : p.n ≤ 5
  mo : ∀ k ∈ p.ms, 0 ≤ k ∧ k < p.n
  ml : p.ms.length ≤ 10
  so : ∀ s ∈ p.ss, OkS p.n s
  sl : p.ss.length ≤ 600
  w0 : 0 ≤ p.now
  w1 : p.now < p.n
theorem OkP.q {p : PlainD} (h : OkP p) : OkQ p := ⟨h.n1, by have := h.n4; omega, h.mo, by have := h.ml; omega, h.so, h.sl, h.w0, h.w1⟩
/-! ### a pattern of plain parts -/
def sp_client (T : Tp K mg) : Sp := fun vs H Q _ => ∃ (b am as_ : Addr) (p : PlainD) (us : List V), vs = [.ref b] ∧ PlainAt H b p am as_ us ∧ OkQ p ∧ ∀ y m H', H y = none → Ex H H' → Made p.n p.ms p.ss p.now m → MachAt H' y T.C_Pattern m → Q (.ref y) H'
theorem ok_client (T : Tp K mg) : FnOk P w K mg base CX0 5 T.a__law_client T.d__law_client ["_law_plain"] (sp_client T) := by
  have G_init : FnOk P w K mg base CX0 3 T.a_Machine___init__ T.d_Machine___init__ ["self", "size", "marks", "steps", "now"] (sp_init K) := ok_init T
  refine T.f__law_client.ok sc__law_client (fun vs H Q E h => ?_) (fun cdv A outer s H vs Q E hr h => ?_)
  · obtain ⟨b, am, as_, p, us, rfl, _⟩ := h
    rfl
  · obtain ⟨b, am, as_, p, us, rfl, ⟨h1, h2, h3, h4⟩, ok, q⟩ := h
    refine ⟨_, (pss_one (ps_ret (pe_make T.mk_Pattern G_init (hr.mono (by decide)) (by rfl) T.g_Pattern T.b_Machine___init__ .nil pass0 (pa_cons (pe_ix ix_seq (pv 0) pe_int (fun _ _ => rfl)) (pa_cons (pe_callTy c_list (by rfl) T.n_list (by rfl) (pa_cons (pe_ix ix_seq (pv 0) pe_int (fun _ _ => rfl)) pa_nil)) (pa_cons (pe_callTy c_list (by rfl) T.n_list (by rfl) (pa_cons (pe_ix ix_seq (pv 0) pe_int (fun _ _ => rfl)) pa_nil)) (pa_cons (pe_ix ix_seq (pv 0) pe_int (fun _ _ => rfl)) pa_nil))))))), ?_⟩
    walk_at "g"
    refine ix_t (.inl (.inl h1)) (show atI _ 0 = some (.int p.n) from rfl) ?_
    walk_at "g"
    refine ix_t (.inl (.inl h1)) (show atI _ 1 = some (.ref am) from rfl) ?_
    walk_at "g"
    refine list_s (.inl (.inl (.inl h2))) fun l1 H1 hl1 e1 t1 => ?_
    walk_at "g"
    refine ix_t (.inl (.inl (e1 _ _ h1))) (show atI _ 2 = some (.ref as_) from rfl) ?_
    walk_at "g"
    refine list_s (.inl (.inl (.inl (e1 _ _ h3)))) fun l2 H2 hl2 e2 t2 => ?_
    walk_at "g"
    refine ix_t (.inl (.inl ((e1.trans e2) _ _ h1))) (show atI _ 3 = some (.int p.now) from rfl) ?_
    walk_at "g"
    refine mki_go fun y dy H3 hy e3 t3 => ?_
    have n4 := ok.n5
    have ml := ok.ml
    refine ⟨y, _, dy, l1, l2, p.n, p.now, p.ms, us, p.ss, rfl, t3, T.cf_Pattern, ok.n1, by omega, .inl (.inl (.inl ((e2.trans e3) _ _ t1))), ok.mo, by omega, .inl (.inl (.inl (e3 _ _ t2))), h4.tx (tx_ex ((e1.trans e2).trans e3)), ok.so, ok.sl, ok.w0, ok.w1, fun m H' md ma c => ⟨rfl, ?_⟩⟩
    exact q y m H' (none_ex (e1.trans e2) hy) ((e1.trans e2).trans (ex_made hy e3 c)) md ma
/-! ### a grid of steps -/
def gInn (asks : List Str) (hit : Nat → Nat → Nat → Bool) (i j k : Nat) : List StepD := ((List.range k).filter (hit i j)).map fun (e : Nat) => ((i : Int), asks.getD j Str.empty, (e : Int))
def gMid (asks : List Str) (hit : Nat → Nat → Nat → Bool) (n i j : Nat) : List StepD := (List.range j).flatMap fun t => gInn asks hit i t n
def gOut (asks : List Str) (hit : Nat → Nat → Nat → Bool) (n i : Nat) : List StepD := (List.range i).flatMap fun t => gMid asks hit n t asks.length
def gridF (asks : List Str) (hit : Nat → Nat → Nat → Bool) (n : Nat) : List StepD := gOut asks hit n n
theorem gInn_snoc (asks : List Str) (hit : Nat → Nat → Nat → Bool) (i j k : Nat) : gInn asks hit i j (k + 1) = gInn asks hit i j k ++ if hit i j k then [((i : Int), asks.getD j Str.empty, (k : Int))] else [] := by
  unfold gInn
  rw [List.range_succ, List.filter_append, List.map_append]
  congr 1
  by_cases h : hit i j k = true
  · rw [if_pos h, List.filter_cons_of_pos h]
    rfl
  · rw [if_neg h, List.filter_cons_of_neg h]
    rfl
theorem gMid_snoc (asks : List Str) (hit : Nat → Nat → Nat → Bool) (n i j : Nat) : gMid asks hit n i (j + 1) = gMid asks hit n i j ++ gInn asks hit i j n := by
  unfold gMid
  rw [List.range_succ, List.flatMap_append]
  simp
theorem gOut_snoc (asks : List Str) (hit : Nat → Nat → Nat → Bool) (n i : Nat) : gOut asks hit n (i + 1) = gOut asks hit n i ++ gMid asks hit n i asks.length := by
  unfold gOut
  rw [List.range_succ, List.flatMap_append]
  simp
def digR (row : List Int) (many i j : Nat) : Int := row.getD ((4 + i * many + j) % row.length) 0
def hitR (row : List Int) (many : Nat) (n : Int) (i j e : Nat) : Bool := decide (digR row many i j % (n + 2) = e) || (decide (58 ≤ digR row many i j) && decide ((digR row many i j + e) % 2 = 0))
def randN (row : List Int) : Int := 1 + row.getD 0 0 % 4
def randF (row : List Int) (asks : List Str) : PlainD := ⟨randN row, row.getD 2 0 % randN row, lmarksF (row.getD 1 0) (randN row), gridF asks (hitR row asks.length (randN row)) (randN row).toNat⟩
def sp_random (K : PySem.W.Frag) : Sp := fun vs H Q _ => ∃ (a b : Addr) (row : List Int) (asks : List Str), vs = [.ref a, .ref b] ∧ SqL K H a (row.map V.int) ∧ row.length = 24 ∧ (∀ x ∈ row, 0 ≤ x ∧ x < 64) ∧ SqL K H b (asks.map V.str) ∧ asks.length ≤ 4 ∧
  ∀ p am as_ us H', H p = none → Ex H H' → PlainAt H' p (randF row asks) am as_ us → Q (.ref p) H'
theorem ok_random (T : Tp K mg) : FnOk P w K mg base CX0 2 T.a__law_random T.d__law_random ["_law_row", "_law_asks_here"] (sp_random K) := by
  have G__law_marks : FnOk P w K mg base CX0 1 T.a__law_marks T.d__law_marks ["_law_digit", "_law_size"] (sp_lmarks K) := ok_lmarks T
  refine T.f__law_random.ok sc__law_random (fun vs H Q E h => ?_) (fun cdv A outer s H vs Q E hr h => ?_)
  · obtain ⟨a, b, row, asks, rfl, _⟩ := h
    rfl
  · obtain ⟨a, b, row, asks, rfl, hS, hlen, hb, hA, al, q⟩ := h
    refine ⟨_, (pss_cons (ps_set (i := 2) sc__law_random.nd rfl (.inl rfl) (pe_op opAdd pe_int (pe_op op_mod (pe_callTy c_int (by rfl) T.n_int (by rfl) (pa_cons (pe_ix ix_seq (pv 0) pe_int (fun _ _ => rfl)) pa_nil)) pe_int)))
  (pss_cons (ps_set (i := 3) sc__law_random.nd rfl (.inl rfl) (pe_lst pa_nil))
  (pss_cons (ps_for PassesOwn.never rfl (pi_range1 rfl T.n_range (pa_cons (pv 2) pa_nil)) (pg_name (i := 4) sc__law_random.nd rfl (.inl rfl))
  (pss_one (ps_for PassesOwn.never rfl (pi_range1 rfl T.n_range (pa_cons (pe_callB c_len (by rfl) T.n_len (by rfl) (pa_cons (pv 1) pa_nil)) pa_nil)) (pg_name (i := 5) sc__law_random.nd rfl (.inl rfl))
  (pss_cons (ps_set (i := 6) sc__law_random.nd rfl (.inl rfl) (pe_ix ix_seq (pv 0) (pe_op op_mod (pe_callTy c_int (by rfl) T.n_int (by rfl) (pa_cons (pe_op opAdd (pe_op opAdd pe_int (pe_op op_mul (pv 4) (pe_callB c_len (by rfl) T.n_len (by rfl) (pa_cons (pv 1) pa_nil)))) (pv 5)) pa_nil)) (pe_callB c_len (by rfl) T.n_len (by rfl) (pa_cons (pv 0) pa_nil))) (fun _ _ => rfl)))
  (pss_one (ps_for PassesOwn.never rfl (pi_range1 rfl T.n_range (pa_cons (pv 2) pa_nil)) (pg_name (i := 7) sc__law_random.nd rfl (.inl rfl))
  (pss_one (ps_if (PW.pt (pw_or (pt_cmpR op_eq (pe_op op_mod (pe_callTy c_int (by rfl) T.n_int (by rfl) (pa_cons (pv 6) pa_nil)) (pe_op opAdd (pv 2) pe_int)) (pv 7) (nomark _)) (pw_or1 (PW.pt (pw_and (pt_cmpR op_ge (pv 6) pe_int (nomark _)) (pw_and1 (pt_cmpR op_eq (pe_op op_mod (pe_callTy c_int (by rfl) T.n_int (by rfl) (pa_cons (pe_op opAdd (pv 6) (pv 7)) pa_nil)) pe_int) pe_int (nomark _)))))))) (pss_one (ps_expr (pe_bm PySem.F.plainAttrs_list PySem.F.slot_list_append PySem.F.type_list_append mt_append (pv 3) (pa_cons (pe_tup (pa_cons (pv 4) (pa_cons (pe_ix ix_seq (pv 1) (pv 5) (fun _ _ => rfl)) (pa_cons (pv 7) pa_nil)))) pa_nil)))) pss_nil))))))))
  (pss_one (ps_ret (pe_tup (pa_cons (pv 2) (pa_cons (pe_call G__law_marks (hr.mono (by decide)) (by rfl) T.g__law_marks T.f__law_marks.kp T.b__law_marks .nil pass0 (pa_cons (pe_ix ix_seq (pv 0) pe_int (fun _ _ => rfl)) (pa_cons (pv 2) pa_nil))) (pa_cons (pv 3) (pa_cons (pe_op op_mod (pe_callTy c_int (by rfl) T.n_int (by rfl) (pa_cons (pe_ix ix_seq (pv 0) pe_int (fun _ _ => rfl)) pa_nil)) (pv 2)) pa_nil)))))))))), ?_⟩
    walk_at "g"
    refine ix_l hS (row_at (j := 0) (by omega)) ?_
    walk_at "g"
    refine lst_go fun l H1 hl e1 l1 => ?_
    have r0 := Int.emod_nonneg (row.getD 0 0) (show (4 : Int) ≠ 0 by decide)
    have r1 := Int.emod_lt_of_pos (row.getD 0 0) (show (0 : Int) < 4 by decide)
    rw [show 1 + row.getD 0 0 % 4 = randN row from rfl]
    have n1 : 1 ≤ randN row := by unfold randN; omega
    have n4 : randN row ≤ 4 := by unfold randN; omega
    have en : ∃ n, n = randN row := ⟨_, rfl⟩
    obtain ⟨n, en⟩ := en
    rw [← en] at n1 n4 ⊢
    have eh : ∃ hit, hit = hitR row asks.length n := ⟨_, rfl⟩
    obtain ⟨hit, eh⟩ := eh
    walk_at "g"
    refine lr1_go (fun i σ' H' => ∃ y4 y5 y6 y7 us, σ' = [some (.ref a), some (.ref b), some (.int n), some (.ref l), y4, y5, y6, y7] ∧ Ex H H' ∧ H' l = some (.lst us) ∧ us.length ≤ 16 * i ∧ Tups H' us ((gOut asks hit n.toNat i).map stepV))
      ⟨_, _, _, _, _, rfl, e1, l1, Nat.zero_le _, .nil⟩ ⟨by omega, by omega⟩ ?_ ?_
    · rintro i σ' H' hi ⟨y4, y5, y6, y7, us, rfl, e2, l2, z2, t2⟩
      walk_at "g"
      refine len_l (ex_l e2 hA) ?_
      walk_at "g"
      refine lr1_go (fun j σ' H' => ∃ y5 y6 y7 us, σ' = [some (.ref a), some (.ref b), some (.int n), some (.ref l), some (.int i), y5, y6, y7] ∧ Ex H H' ∧ H' l = some (.lst us) ∧ us.length ≤ 16 * i + 4 * j ∧ Tups H' us ((gOut asks hit n.toNat i ++ gMid asks hit n.toNat i j).map stepV))
        ⟨_, _, _, _, rfl, e2, l2, z2, by unfold gMid; rw [List.range_zero, List.flatMap_nil, List.append_nil]; exact t2⟩ ⟨by omega, by rw [List.length_map]; omega⟩ ?_ ?_
      · rintro j σ' H' hj ⟨y5, y6, y7, us, rfl, e3, l3, z3, t3⟩
        rw [List.length_map] at hj
        walk_at "g"
        refine len_l (ex_l e3 hA) ?_
        walk_at "g"
        refine r_I (.inl ⟨by omega, by omega⟩) ?_
        walk_at "g"
        refine len_l (ex_l e3 hS) ?_
        walk_at "g"
        refine ⟨_, _, rfl, rfl, show (0 : Int) < _ by rw [List.length_map, hlen]; decide, ?_⟩
        have ed : (4 + (i : Int) * ((asks.map V.str).length : Nat) + (j : Int)) % ((row.map V.int).length : Nat) = (((4 + i * asks.length + j) % row.length : Nat) : Int) := by
          rw [List.length_map, List.length_map]
          push_cast
          rfl
        show rIx _ _ (V.int ((4 + (i : Int) * ((asks.map V.str).length : Nat) + (j : Int)) % ((row.map V.int).length : Nat))) _ _
        rw [ed]
        have hd : (4 + i * asks.length + j) % row.length < row.length := Nat.mod_lt _ (by omega)
        refine ix_l (ex_l e3 hS) (row_at hd) ?_
        rw [show row.getD ((4 + i * asks.length + j) % row.length) 0 = digR row asks.length i j from rfl]
        generalize hdd : digR row asks.length i j = d
        walk_at "g"
        refine lr1_go (fun k σ' H' => ∃ y7 us, σ' = [some (.ref a), some (.ref b), some (.int n), some (.ref l), some (.int i), some (.int j), some (.int d), y7] ∧ Ex H H' ∧ H' l = some (.lst us) ∧ us.length ≤ 16 * i + 4 * j + k ∧ Tups H' us ((gOut asks hit n.toNat i ++ gMid asks hit n.toNat i j ++ gInn asks hit i j k).map stepV))
          ⟨_, us, rfl, e3, l3, z3, by unfold gInn; rw [List.range_zero, List.filter_nil, List.map_nil, List.append_nil]; exact t3⟩ ⟨by omega, by omega⟩ ?_ ?_
        · rintro k σ' H' hk ⟨y7, us, rfl, e4, l4, z4, t4⟩
          have lz : us.length < sizeLine := sz_lt (by omega)
          have AP : hit i j k = true → (∀ p, H' p = none → ∀ H6, H6 = upd (upd H' p (.tup [.int i, .str (asks.getD j Str.empty), .int k])) l (.lst (us ++ [.ref p])) → Ex H H6 ∧ H6 l = some (.lst (us ++ [.ref p])) ∧ (us ++ [V.ref p]).length ≤ 16 * i + 4 * j + (k + 1) ∧ Tups H6 (us ++ [.ref p]) ((gOut asks hit n.toNat i ++ gMid asks hit n.toNat i j ++ gInn asks hit i j (k + 1)).map stepV)) := by
            intro hh p hp H6 h6
            have e6 : Ex H H6 := by
              rw [h6]
              exact ex_upd (e4.trans (Ex.new hp)) hl
            have pl : p ≠ l := fun z => by rw [z, l4] at hp; cases hp
            have t6 : Tx H' H6 := by
              rw [h6]
              exact (tx_ex (Ex.new hp)).trans (tx_lst ((Ex.new hp) _ _ l4))
            refine ⟨e6, by rw [h6, upd_same], by rw [List.length_append]; show us.length + 1 ≤ _; omega, ?_⟩
            rw [gInn_snoc, if_pos hh, ← List.append_assoc, List.map_append]
            refine Tups.snoc ?_ (Tups.tx t6 t4)
            refine ⟨p, rfl, ?_⟩
            rw [h6, upd_ne pl, upd_same]
            rfl
          have hv : hit i j k = (decide (d % (n + 2) = k) || (decide (58 ≤ d) && decide ((d + k) % 2 = 0))) := by rw [eh]; unfold hitR; rw [hdd]
          walk_at "g"
          refine r_I (show 0 < n + 2 by omega) ?_
          walk_at "g"
          refine ite_b (fun hc => ?_) (fun hc => ?_)
          · have z : d % (n + 2) = k := V.int.inj (of_decide_eq_true hc)
            refine ite_t rfl ?_
            refine r_drop (r_app rfl l4 ?_)
            walk_at "g"
            refine ix_l (ex_l e4 hA) (strs_at (by omega)) ?_
            walk_at "g"
            refine ⟨sz_of (by show 3 ≤ 100000; decide), fun p hp => ?_⟩
            obtain ⟨g1, g2, g3, g4⟩ := AP (by rw [hv, decide_eq_true z, Bool.true_or]) p hp _ rfl
            refine app_l ((Ex.new hp) _ _ l4) lz ?_
            walk_at "g"
            exact ⟨_, _, rfl, g1, g2, g3, g4⟩
          · have z : ¬ d % (n + 2) = k := fun q0 => of_decide_eq_false hc (congrArg V.int q0)
            walk_at "g"
            refine ite_b (fun hc2 => ?_) (fun hc2 => ?_)
            · have z2' := of_decide_eq_true hc2
              walk_at "g"
              refine ite_b (fun hc3 => ?_) (fun hc3 => ?_)
              · have z3' : (d + k) % 2 = 0 := V.int.inj (of_decide_eq_true hc3)
                refine r_drop (r_app rfl l4 ?_)
                walk_at "g"
                refine ix_l (ex_l e4 hA) (strs_at (by omega)) ?_
                walk_at "g"
                refine ⟨sz_of (by show 3 ≤ 100000; decide), fun p hp => ?_⟩
                obtain ⟨g1, g2, g3, g4⟩ := AP (by rw [hv, decide_eq_false z, decide_eq_true z2', decide_eq_true z3']; rfl) p hp _ rfl
                refine app_l ((Ex.new hp) _ _ l4) lz ?_
                walk_at "g"
                exact ⟨_, _, rfl, g1, g2, g3, g4⟩
              · have z3' : ¬ (d + k) % 2 = 0 := fun q0 => of_decide_eq_false hc3 (congrArg V.int q0)
                walk_at "g"
                refine ⟨_, us, rfl, e4, l4, by omega, ?_⟩
                rw [gInn_snoc, if_neg (by rw [hv, decide_eq_false z, decide_eq_true z2', decide_eq_false z3']; decide), List.append_nil]
                exact t4
            · have z2' := of_decide_eq_false hc2
              refine ite_f rfl ?_
              walk_at "g"
              refine ⟨_, us, rfl, e4, l4, by omega, ?_⟩
              rw [gInn_snoc, if_neg (by rw [hv, decide_eq_false z, decide_eq_false z2', Bool.false_and]; decide), List.append_nil]
              exact t4
        · rintro σ' H' ⟨y7, us, rfl, e4, l4, z4, t4⟩
          walk_at "g"
          refine ⟨_, _, _, us, rfl, e4, l4, by omega, ?_⟩
          rw [gMid_snoc, ← List.append_assoc]
          exact t4
      · rintro σ' H' ⟨y5, y6, y7, us, rfl, e3, l3, z3, t3⟩
        walk_at "g"
        refine ⟨_, _, _, _, us, rfl, e3, l3, ?_, ?_⟩
        · rw [List.length_map] at z3
          omega
        · rw [gOut_snoc]
          rw [show ((List.map V.str asks).length : Int).toNat = asks.length by rw [List.length_map]; omega] at t3
          exact t3
    · rintro σ' H2 ⟨y4, y5, y6, y7, us, rfl, e2, l2, z2, t2⟩
      walk_at "g"
      refine ix_l (ex_l e2 hS) (row_at (j := 1) (by omega)) ?_
      walk_at "g"
      refine ⟨row.getD 1 0, n, rfl, n1, n4, fun pm H3 fm e3 t3 => ?_⟩
      walk_at "g"
      refine ix_l (ex_l (e2.trans e3) hS) (row_at (j := 2) (by omega)) ?_
      walk_at "g"
      refine r_I (show 0 < n by omega) ?_
      walk_at "g"
      refine tup_go' fun p H4 hp e4 h4 => ?_
      refine q p pm l us H4 (none_ex (e2.trans e3) hp) (e2.trans (e3.trans e4)) ?_
      unfold randF
      rw [← en, ← eh]
      exact ⟨h4, e4 _ _ t3, (e3.trans e4) _ _ l2, t2.tx (tx_ex (e3.trans e4))⟩
/-! ### the pairs of each state -/
def RowsAt (H : Hp) (us : List V) (rows : List (List PairL)) : Prop := us.length = rows.length ∧ ∀ (i : Nat) (r : List PairL), rows[i]? = some r → ∃ (q : Addr) (ws : List V), us[i]? = some (V.ref q) ∧ H q = some (.lst ws) ∧ NAts H ws (r.map pN)
def RowsL (l : Addr) (H : Hp) (us : List V) (rows : List (List PairL)) : Prop := us.length = rows.length ∧ ∀ (i : Nat) (r : List PairL), rows[i]? = some r → ∃ (q : Addr) (ws : List V), us[i]? = some (V.ref q) ∧ H q = some (.lst ws) ∧ NAts H ws (r.map pN) ∧ q ≠ l
theorem RowsL.at_ {l : Addr} {H : Hp} {us : List V} {rows : List (List PairL)} (h : RowsL l H us rows) : RowsAt H us rows := ⟨h.1, fun i r hi => by obtain ⟨q, ws, a, b, c, _⟩ := h.2 i r hi; exact ⟨q, ws, a, b, c⟩⟩
theorem RowsAt.ex {H H' : Hp} {us : List V} {rows : List (List PairL)} (e : Ex H H') (h : RowsAt H us rows) : RowsAt H' us rows := ⟨h.1, fun i r hi => by obtain ⟨q, ws, a, b, c⟩ := h.2 i r hi; exact ⟨q, ws, a, e _ _ b, c.tx (ex_txn e)⟩⟩
theorem RowsL.ex {l : Addr} {H H' : Hp} {us : List V} {rows : List (List PairL)} (e : Ex H H') (h : RowsL l H us rows) : RowsL l H' us rows := ⟨h.1, fun i r hi => by obtain ⟨q, ws, a, b, c, d⟩ := h.2 i r hi; exact ⟨q, ws, a, e _ _ b, c.tx (ex_txn e), d⟩⟩
theorem RowsL.chl {l : Addr} {H H' : Hp} {us ys : List V} {rows : List (List PairL)} (hl : H l = some (.lst ys)) (c : Ch l H H') (h : RowsL l H us rows) : RowsL l H' us rows := ⟨h.1, fun i r hi => by obtain ⟨q, ws, a, b, d, e⟩ := h.2 i r hi; exact ⟨q, ws, a, c _ _ e b, d.tx fun x xs z => tx_ch hl c x xs z, e⟩⟩
theorem RowsL.snoc {l q : Addr} {H : Hp} {us ws : List V} {rows : List (List PairL)} {r : List PairL} (h : RowsL l H us rows) (a : H q = some (.lst ws)) (n : NAts H ws (r.map pN)) (ne : q ≠ l) : RowsL l H (us ++ [.ref q]) (rows ++ [r]) := by
  refine ⟨by rw [List.length_append, List.length_append, h.1]; rfl, fun i r2 hi => ?_⟩
  by_cases z : i < rows.length
  · rw [List.getElem?_append_left z] at hi
    obtain ⟨q', ws', a', c⟩ := h.2 i r2 hi
    exact ⟨q', ws', by rw [List.getElem?_append_left (by rw [h.1]; exact z)]; exact a', c⟩
  · have zl := (List.getElem?_eq_some_iff.mp hi).1
    rw [List.length_append] at zl
    have zi : i = rows.length := by
      have : [r].length = 1 := rfl
      omega
    subst zi
    rw [List.getElem?_append_right (Nat.le_refl _), Nat.sub_self] at hi
    cases hi
    exact ⟨q, ws, by rw [← h.1, List.getElem?_append_right (Nat.le_refl _), Nat.sub_self]; rfl, a, n, ne⟩
def stepN (s : StepD) : NK := .tup [.int s.1, .str s.2.1, .int s.2.2]
theorem stepN_inj {a b : StepD} (h : stepN a = stepN b) : a = b := by
  obtain ⟨a1, a2, a3⟩ := a
  obtain ⟨b1, b2, b3⟩ := b
  unfold stepN at h
  simp only [NK.tup.injEq, List.cons.injEq, NK.int.injEq, NK.str.injEq] at h
  obtain ⟨h1, h2, h3, _⟩ := h
  subst h1 h2 h3
  rfl
theorem stepN_depth (s : StepD) : (stepN s).depth ≤ 8 := by
  unfold stepN NK.depth
  have : NK.depths [NK.int s.1, NK.str s.2.1, NK.int s.2.2] ≤ 0 := depths_le fun k hk => by
    rcases List.mem_cons.mp hk with rfl | hk
    · exact Nat.le_refl _
    rcases List.mem_cons.mp hk with rfl | hk
    · exact Nat.le_refl _
    rw [List.mem_singleton.mp hk]; exact Nat.le_refl _
  omega
theorem steps_nats {H : Hp} : ∀ {us : List V} {l : List StepD}, Tups H us (l.map stepV) → NAts H us (l.map stepN)
  | _, [], .nil => .nil
  | _, s :: l, .cons h t => .cons (by
    obtain ⟨a, rfl, h⟩ := h
    exact .tup h (.cons (.int _) (.cons (.str _) (.cons (.int _) .nil)))) (steps_nats t)
def lpInn (ss : List StepD) (st : Int) (x : Str) (k : Nat) : List PairL := ((List.range k).filter fun (e : Nat) => decide ((st, x, (e : Int)) ∈ ss)).map fun (e : Nat) => (x, (e : Int))
def lpairs (p : PlainD) (asks : List Str) (st : Int) (j : Nat) : List PairL := (asks.take j).flatMap fun x => lpInn p.ss st x p.n.toNat
theorem lpInn_snoc (ss : List StepD) (st : Int) (x : Str) (k : Nat) : lpInn ss st x (k + 1) = lpInn ss st x k ++ if (st, x, (k : Int)) ∈ ss then [(x, (k : Int))] else [] := by
  unfold lpInn
  rw [List.range_succ, List.filter_append, List.map_append]
  congr 1
  by_cases h : (st, x, (k : Int)) ∈ ss
  · rw [if_pos h, List.filter_cons, if_pos (decide_eq_true h)]
    rfl
  · rw [if_neg h, List.filter_cons, if_neg (fun z => h (of_decide_eq_true z))]
    rfl
theorem lpInn_len (ss : List StepD) (st : Int) (x : Str) (k : Nat) : (lpInn ss st x k).length ≤ k := by
  unfold lpInn
  rw [List.length_map]
  refine Nat.le_trans (List.length_filter_le _ _) ?_
  rw [List.length_range]
  exact Nat.le_refl _
def sp_pairs2 (K : PySem.W.Frag) : Sp := fun vs H Q _ => ∃ (b ak am as_ : Addr) (p : PlainD) (ws : List V) (asks : List Str), vs = [.ref b, .ref ak] ∧ PlainAt H b p am as_ ws ∧ OkQ p ∧ SqL K H ak (asks.map V.str) ∧ asks.length ≤ 4 ∧
  ∀ l us H', H l = none → Ex H H' → H' l = some (.lst us) → RowsAt H' us ((List.range p.n.toNat).map fun (st : Nat) => lpairs p asks (st : Int) asks.length) → Q (.ref l) H'
theorem ok_pairs2 (T : Tp K mg) : FnOk P w K mg base CX0 1 T.a__law_pairs T.d__law_pairs ["_law_plain", "_law_asks_here"] (sp_pairs2 K) := by
  refine T.f__law_pairs.ok sc__law_pairs (fun vs H Q E h => ?_) (fun cdv A outer s H vs Q E hr h => ?_)
  · obtain ⟨b, ak, am, as_, p, ws, asks, rfl, _⟩ := h
    rfl
  · obtain ⟨b, ak, am, as_, p, ws, asks, rfl, ⟨h1, h2, h3, h4⟩, ok, hA, al, q⟩ := h
    have hu64 := hu64_of hr
    have n4 := ok.n5
    have n1 := ok.n1
    refine ⟨_, (pss_cons (ps_set (i := 2) sc__law_pairs.nd rfl (.inr rfl) (pe_nnew (X := _)))
  (pss_cons (ps_for PassesOwn.never rfl (pi_list (pe_ix ix_seq (pv 0) pe_int (fun _ _ => rfl))) (pg_name (i := 3) sc__law_pairs.nd rfl (.inl rfl))
  (pss_one (ps_nput hu64 (pv 2) (pv 3) pe_bl rfl)))
  (pss_cons (ps_set (i := 4) sc__law_pairs.nd rfl (.inl rfl) (pe_lst pa_nil))
  (pss_cons (ps_for PassesOwn.never rfl (pi_range1 rfl T.n_range (pa_cons (pe_ix ix_seq (pv 0) pe_int (fun _ _ => rfl)) pa_nil)) (pg_name (i := 5) sc__law_pairs.nd rfl (.inr rfl))
  (pss_cons (ps_set (i := 6) sc__law_pairs.nd rfl (.inl rfl) (pe_lst pa_nil))
  (pss_cons (ps_for PassesOwn.never rfl (pi_list (pv 1)) (pg_name (i := 7) sc__law_pairs.nd rfl (.inr rfl))
  (pss_one (ps_set (i := 6) sc__law_pairs.nd rfl (.inl rfl) (pe_op opAdd (pv 6) (pe_lc (own := [("_law_way", 8)]) (g := gName 8) rfl sc__law_pairs.nd (pi_range1 rfl T.n_range (pa_cons (pe_ix ix_seq (pv 0) pe_int (fun _ _ => rfl)) pa_nil)) (blkOk_by (N := N__law_pairs) (sc := defScope s__law_pairs) (by decide +kernel)) (fun _ _ _ _ _ => (pg_name (i := 8) sc__law_pairs.nd rfl (.inl rfl))) (fun _ _ _ _ _ => (pts_one (pt_cmp (pc_ninK (w := w) hu64 (pe_tup (pa_cons (pv 5) (pa_cons (pv 7) (pa_cons (pv 8) pa_nil)))) (pv 2))))) (fun _ _ _ _ _ => (pe_tup (pa_cons (pv 7) (pa_cons (pv 8) pa_nil)))))))))
  (pss_one (ps_expr (pe_bm PySem.F.plainAttrs_list PySem.F.slot_list_append PySem.F.type_list_append mt_append (pv 4) (pa_cons (pv 6) pa_nil)))))))
  (pss_one (ps_ret (pv 4))))))), ?_⟩
    walk_at "g"
    refine nnew_go fun d H1 nd e1 hd => ?_
    walk_at "g"
    refine ix_t (.inl (.inl (e1 _ _ h1))) (show atI _ 2 = some (.ref as_) from rfl) ?_
    have hN : NAts H ws (p.ss.map stepN) := steps_nats h4
    have lws : ws.length = p.ss.length := by rw [hN.len, List.length_map]
    have sl := ok.sl
    refine ll_go (.inl (.inl (e1 _ _ h3))) (fun i σ' H' => ∃ y3 kvs, σ' = [some (.ref b), some (.ref ak), some (.ref d), y3, none, none, none, none, none] ∧ Ex H H' ∧ H' d = some (dN w d kvs) ∧ KeysOk H' kvs ∧ kvs.length ≤ i ∧ ∀ k, (valN kvs k).isSome = decide (k ∈ (p.ss.take i).map stepN))
      ⟨_, [], rfl, e1, hd, (fun _ z => nomatch z), Nat.le_refl _, fun k => (decide_eq_false (by rw [List.take_zero]; exact fun z => nomatch z)).symm⟩ (fun i σ' H' _ z => by obtain ⟨_, _, _, e, _⟩ := z; exact .inl (.inl (e _ _ h3))) ?_ ?_
    · rintro i v σ' H' hv ⟨y3, kvs, rfl, e2, hd2, ko, kl, kv⟩
      have il := (List.getElem?_eq_some_iff.mp hv).1
      obtain ⟨kk, hkk, nk⟩ := hN.get hv
      rw [List.getElem?_map] at hkk
      obtain ⟨s1, hs1, rfl⟩ := Option.map_eq_some_iff.mp hkk
      obtain ⟨sb, sx, rfl, _, _⟩ := id nk.tupOf
      have nk2 : NAt H' (.ref sb) (stepN s1) := nk.tx (ex_txn e2)
      refine gname1 ?_
      refine r_nput ?_
      walk_at "g"
      refine ⟨d, _, rfl, ⟨kvs, stepN s1, sb, hd2, ko, rfl, stepN_depth s1, nk2, sz_lt (by omega), rfl⟩, ?_⟩
      refine ⟨_, putN kvs (stepN s1) sb (.bl true), rfl, ex_upd e2 nd, upd_same, (ko.put (stepN_depth s1) nk2).tx (txn_dn hd2), Nat.le_trans (length_putN _ _ _ _) (by omega), fun k => ?_⟩
      rw [valN_put]
      have tk : (p.ss.take (i + 1)).map stepN = (p.ss.take i).map stepN ++ [stepN s1] := by
        rw [List.take_add_one, hs1, List.map_append]
        rfl
      rw [tk]
      by_cases z : stepN s1 = k
      · rw [if_pos z, ← z]
        exact (decide_eq_true (List.mem_append_right _ (List.mem_singleton_self _))).symm
      · rw [if_neg z, kv k]
        refine decide_eq_decide.mpr ⟨fun m => List.mem_append_left _ m, fun m => ?_⟩
        rcases List.mem_append.mp m with m | m
        · exact m
        · exact absurd (List.mem_singleton.mp m).symm z
    rintro σ' H2 ⟨y3, kvs, rfl, e2, hd2, ko, kl, kv⟩
    rw [lws, List.take_length] at kv
    have kv2 : ∀ s : StepD, (valN kvs (stepN s)).isSome = decide (s ∈ p.ss) := fun s => by
      rw [kv]
      exact decide_eq_decide.mpr ⟨fun m => by
        obtain ⟨s2, m2, e⟩ := List.mem_map.mp m
        rw [← stepN_inj e]; exact m2, fun m => List.mem_map.mpr ⟨s, m, rfl⟩⟩
    walk_at "g"
    refine lst_go fun l H3 nl e3 hl => ?_
    walk_at "g"
    refine ix_t (.inl (.inl ((e2.trans e3) _ _ h1))) (show atI _ 0 = some (.int p.n) from rfl) ?_
    walk_at "g"
    refine lr1_go (fun i σ' H' => ∃ y5 y6 y7 y8 acc, σ' = [some (.ref b), some (.ref ak), some (.ref d), y3, some (.ref l), y5, y6, y7, y8] ∧ Ex H2 H' ∧ H' l = some (.lst acc) ∧ RowsL l H' acc ((List.range i).map fun (st : Nat) => lpairs p asks (st : Int) asks.length))
      ⟨_, _, _, _, [], rfl, e3, hl, rfl, fun i r hi => nomatch hi⟩ ⟨by omega, by omega⟩ ?_ ?_
    · rintro i σ' H4 hi ⟨y5, y6, y7, y8, acc, rfl, e4, l4, rl⟩
      have la : acc.length = i := by rw [rl.1, List.length_map, List.length_range]
      walk_at "g"
      refine lst_go fun r0 H5 nr0 e5 hr0 => ?_
      walk_at "g"
      have l5 := e5 _ _ l4
      have nrl : r0 ≠ l := fun z => by rw [z, l4] at nr0; cases nr0
      refine ll_go (ex_l (e2.trans (e4.trans e5)) hA) (fun j σ' H' => ∃ y7 y8 r ws, σ' = [some (.ref b), some (.ref ak), some (.ref d), y3, some (.ref l), some (.int i), some (.ref r), y7, y8] ∧ Ex H4 H' ∧ H' r = some (.lst ws) ∧ r ≠ l ∧ NAts H' ws ((lpairs p asks (i : Int) j).map pN) ∧ (lpairs p asks (i : Int) j).length ≤ 5 * j)
        ⟨_, _, r0, [], rfl, e5, hr0, nrl, .nil, Nat.zero_le _⟩ (fun j σ' H' _ z => by obtain ⟨_, _, _, _, _, e, _⟩ := z; exact ex_l (e2.trans (e4.trans e)) hA) ?_ ?_
      · rintro j v σ' H6 hv ⟨y7, y8, r, ws6, rfl, e6, hr6, nr, nt, ln⟩
        rw [List.getElem?_map] at hv
        obtain ⟨x, hx, rfl⟩ := Option.map_eq_some_iff.mp hv
        have jl := (List.getElem?_eq_some_iff.mp hx).1
        refine gname1 ?_
        walk_at "g"
        have e46 := e4.trans e6
        have d6 := e46 _ _ hd2
        have ko6 := ko.tx (ex_txn e46)
        have lw : ws6.length = (lpairs p asks (i : Int) j).length := by rw [nt.len, List.length_map]
        refine lcf_r (m := p.n) (fun k acc Hx => NAts Hx acc ((lpInn p.ss (i : Int) x k).map pN)) ⟨fun _ _ _ _ e h => h.tx (ex_txn e), fun _ _ _ _ _ _ hD c h => h.tx fun a xs z => tx_ch hD c a xs z⟩ (fun R rr => ?_) ⟨by omega, by omega⟩ .nil ?_ ?_
        · walk_at "g"
          refine ix_t (.inl (.inl ((e2.trans e46) _ _ h1))) (show atI _ 0 = some (.int p.n) from rfl) ?_
          walk_at "g"
          exact rr
        · intro k acc7 Ha hk al7 ea pa R R2 r1 r2
          refine gname1 ⟨rfl, ?_⟩
          walk_at "g"
          refine r_nin ?_
          walk_at "g"
          refine tup_go' fun p9 H9 n9 e9 h9 => ?_
          walk_at "g"
          refine ⟨d, _, rfl, ⟨kvs, stepN ((i : Int), x, (k : Int)), p9, .inl ((ea.trans e9) _ _ d6), ko6.tx (ex_txn (ea.trans e9)), rfl, stepN_depth _, .tup h9 (.cons (.int _) (.cons (.str _) (.cons (.int _) .nil))), rfl⟩, ?_⟩
          rw [kv2]
          have pa9 := pa.tx (ex_txn e9)
          refine ⟨_, rfl, ite_b (fun hc => ?_) (fun hc => ?_)⟩
          · have hm := of_decide_eq_true hc
            walk_at "g"
            refine tup_go (ks := [.str x, .int k]) (.cons (.str _) (.cons (.int _) .nil)) fun p8 H8 n8 e8 a8 _ => r1 _ H8 (e9.trans e8) ?_
            show NAts H8 _ _
            rw [lpInn_snoc, if_pos hm, List.map_append]
            exact NAts.snoc (pa9.tx (ex_txn e8)) a8
          · have hm := of_decide_eq_false hc
            refine r2 H9 e9 ?_
            show NAts H9 _ _
            rw [lpInn_snoc, if_neg hm, List.append_nil]
            exact pa9
        · intro D acc7 H7 nD al7 e7 hD pa
          walk_at "g"
          have r7 := e7 _ _ hr6
          have l7 := lpInn_len p.ss (i : Int) x p.n.toNat
          refine add_lst r7 hD (by have : 3000 ≤ sizeLine := by decide
                                   omega) fun r2 nr2 => ?_
          have e8 : Ex H7 (upd H7 r2 (.lst (ws6 ++ acc7))) := Ex.new nr2
          refine ⟨_, _, r2, ws6 ++ acc7, rfl, e6.trans (e7.trans e8), upd_same, (fun z => by rw [z, (e6.trans e7) _ _ l4] at nr2; cases nr2), ?_, ?_⟩
          · have tk : lpairs p asks (i : Int) (j + 1) = lpairs p asks (i : Int) j ++ lpInn p.ss (i : Int) x p.n.toNat := by
              unfold lpairs
              rw [List.take_add_one, hx, List.flatMap_append]
              simp
            rw [tk, List.map_append]
            exact (nt.tx (ex_txn (e7.trans e8))).app (pa.tx (ex_txn e8))
          · have tk : lpairs p asks (i : Int) (j + 1) = lpairs p asks (i : Int) j ++ lpInn p.ss (i : Int) x p.n.toNat := by
              unfold lpairs
              rw [List.take_add_one, hx, List.flatMap_append]
              simp
            rw [tk, List.length_append]
            omega
      · rintro σ' H6 ⟨y7, y8, r, ws6, rfl, e6, hr6, nr, nt, ln⟩
        rw [show (asks.map V.str).length = asks.length from List.length_map ..] at nt
        walk_at "g"
        have l6 := e6 _ _ l4
        refine r_app rfl l6 ?_
        walk_at "g"
        refine app_l l6 (Nat.lt_of_le_of_lt (show acc.length ≤ 4 by omega) (by decide)) ?_
        have c7 : Ch l H6 (upd H6 l (.lst (acc ++ [.ref r]))) := ch_upd
        walk_at "g"
        refine ⟨_, _, _, _, acc ++ [.ref r], rfl, ?_, upd_same, ?_⟩
        · exact ex_upd (e4.trans e6) nl
        · rw [List.range_succ, List.map_append]
          exact ((rl.ex e6).snoc hr6 nt nr).chl l6 c7
    · rintro σ' H4 ⟨y5, y6, y7, y8, acc, rfl, e4, l4, rl⟩
      walk_at "g"
      exact q l acc H4 (none_ex e2 nl) (e2.trans e4) l4 rl.at_
end

end K12

set_option Elab.async false
set_option linter.all false
set_option maxRecDepth 100000
set_option maxHeartbeats 2000000
namespace K12
open PySem PySem.Spec PyProof.Rows L2 Evl AE
local macro_rules | `(tactic| walk_at "c") => `(tactic| first | exact ⟨by decide, by decide⟩ | exact .inr ⟨by decide, by decide⟩ | exact .inl ⟨by decide, by decide⟩ | exact ⟨by decide, by decide, by decide⟩ | (show (0 : Int) < _; decide))
local macro_rules | `(tactic| walk_at "s") => `(tactic| first
  | (with_reducible refine r_var rfl ?_) | (with_reducible refine r_c ?_) | (with_reducible refine r_op ?_) | (with_reducible refine r_un ?_) | (with_reducible refine r_I0 ?_) | (with_reducible refine r_U ?_)
  | (with_reducible refine r_eq rfl ?_) | (with_reducible refine r_ne rfl ?_) | (with_reducible refine r_chain ?_) | (with_reducible refine r_test ?_) | (with_reducible refine r_tB ?_)
  | (with_reducible refine r_bl ?_) | (with_reducible refine r_and ?_) | (with_reducible refine r_or ?_) | (with_reducible refine r_not ?_) | (with_reducible refine r_nil ?_) | (with_reducible refine r_cons ?_)
  | (with_reducible refine r_tupK ?_) | (with_reducible refine r_lstK ?_) | (with_reducible refine r_cb ?_) | (with_reducible refine r_revL ?_) | (with_reducible refine r_ost ?_) | (with_reducible refine r_mkO ?_) | (with_reducible refine r_makeK ?_) | (with_reducible refine r_make ?_) | (with_reducible refine r_setdN ?_) | (with_reducible refine r_nget2 ?_) | (with_reducible refine r_nnew ?_) | (with_reducible refine r_call ?_) | (with_reducible refine r_seq ?_) | (with_reducible refine r_set ?_)
  | (with_reducible refine r_drop ?_) | (with_reducible refine r_ret ?_) | (with_reducible refine r_next ?_) | (with_reducible refine r_if ?_) | (with_reducible refine r_sl ?_) | (with_reducible refine r_nop ?_) | (with_reducible refine r_prt ?_) | (with_reducible refine r_some ?_)
  | (with_reducible refine add_int ?_) | (with_reducible refine int_i ?_) | (with_reducible refine r_forR1 ?_) | (with_reducible refine r_forR2 ?_) | (with_reducible refine r_meth ?_) | (with_reducible refine r_makeS ?_) | (with_reducible refine r_opS ?_) | (with_reducible refine r_makeRS ?_) | (with_reducible refine r_methH ?_) | (with_reducible refine r_callS ?_) | (with_reducible refine r_forL ?_) | (with_reducible refine r_andV ?_) | (with_reducible refine r_orV ?_) | (with_reducible refine r_notV ?_) | (with_reducible refine r_ifE ?_) | (with_reducible refine r_lcL ?_) | (with_reducible refine r_fld ?_) | (with_reducible refine r_get ?_) | (with_reducible refine r_din ?_) | (with_reducible refine r_dget2 ?_) | ((with_reducible refine r_I ?_ ?_); (walk_at "c")))
local macro_rules | `(tactic| walk_at "g") => `(tactic| repeat walk_at "s")
section
variable {P : Program} {w : World} {K : PySem.W.Frag} {mg : Str → Option Value} {base : Heap}
def prK (a b : Int) : NK := .tup [.int a, .int b]
def rowAt (rows : List (List PairL)) (a : Int) : List PairL := rows.getD a.toNat []
/-- the pairs of states, in order -/
def gridK (n1 n2 : Int) : List NK := (List.range n1.toNat).flatMap fun (a : Nat) => (List.range n2.toNat).map fun (b : Nat) => prK (a : Int) (b : Int)
theorem prK_inj {a b a' b' : Int} (h : prK a b = prK a' b') : a = a' ∧ b = b' := by
  unfold prK at h
  simp only [NK.tup.injEq, List.cons.injEq, NK.int.injEq] at h
  exact ⟨h.1, h.2.1⟩
theorem mem_grid {n1 n2 : Int} {k : NK} : k ∈ gridK n1 n2 ↔ ∃ a b : Int, (0 ≤ a ∧ a < n1) ∧ (0 ≤ b ∧ b < n2) ∧ k = prK a b := by
  unfold gridK
  rw [List.mem_flatMap]
  constructor
  · rintro ⟨a, ha, h⟩
    obtain ⟨b, hb, rfl⟩ := List.mem_map.mp h
    have := List.mem_range.mp ha
    have := List.mem_range.mp hb
    exact ⟨a, b, ⟨by omega, by omega⟩, ⟨by omega, by omega⟩, rfl⟩
  · rintro ⟨a, b, ha, hb, rfl⟩
    refine ⟨a.toNat, List.mem_range.mpr (by omega), List.mem_map.mpr ⟨b.toNat, List.mem_range.mpr (by omega), ?_⟩⟩
    rw [Int.toNat_of_nonneg ha.1, Int.toNat_of_nonneg hb.1]
theorem sum_const {α : Type} (c : Nat) : ∀ l : List α, (l.map fun _ => c).sum = l.length * c
  | [] => by simp
  | x :: l => by
    rw [List.map_cons, List.sum_cons, sum_const c l, List.length_cons, Nat.add_mul, Nat.one_mul, Nat.add_comm]
theorem prK_depth (a b : Int) : (prK a b).depth ≤ 8 := Nat.le_of_ble_eq_true rfl
theorem grid_len (n1 n2 : Int) : (gridK n1 n2).length = n1.toNat * n2.toNat := by
  unfold gridK
  rw [List.length_flatMap]
  simp only [List.length_map, List.length_range]
  rw [sum_const, List.length_range]
theorem keys_old {kvs : List NE} {k : NK} {v v' : V} {b : Addr} (h : valN kvs k = some v) : (putN kvs k b v').map (·.1) = kvs.map (·.1) := by
  unfold putN
  rw [h]
  show (kvs.map _).map _ = _
  rw [List.map_map]
  refine List.map_congr_left fun x _ => ?_
  show (if x.1 = k then _ else x).1 = x.1
  split <;> rfl
theorem cnt_le {l : List NK} {t : NK → Bool} {k : NK} : l.countP (fun x => if x = k then false else t x) ≤ l.countP t := List.countP_mono_left fun x _ h => by
  split at h
  · cases h
  · exact h
theorem cnt_lt {t : NK → Bool} {k : NK} (tk : t k = true) : ∀ {l : List NK}, k ∈ l → l.countP (fun x => if x = k then false else t x) < l.countP t
  | [], h => nomatch h
  | x :: l, h => by
    have le := cnt_le (l := l) (t := t) (k := k)
    rw [List.countP_cons, List.countP_cons]
    by_cases z : x = k
    · rw [z, if_neg (by rw [if_pos rfl]; decide), if_pos tk]
      omega
    · have ih := cnt_lt tk ((List.mem_cons.mp h).resolve_left (Ne.symm z))
      rw [if_neg z]
      omega
theorem RowsAt.kp {H H' : Hp} {us : List V} {rows : List (List PairL)} (k : KeepL (fun _ => none) H H') (h : RowsAt H us rows) : RowsAt H' us rows := ⟨h.1, fun i r hi => by
  obtain ⟨q, ws, a, b, c⟩ := h.2 i r hi
  exact ⟨q, ws, a, k.l _ _ rfl b, c.tx k.t⟩⟩
theorem rows_ix {H : Hp} {us : List V} {prl : List (List PairL)} {e : Int} (h : RowsAt H us prl) (e0 : 0 ≤ e) (e1 : e < prl.length) : ∃ (q : Addr) (ws : List V), atI us e = some (V.ref q) ∧ H q = some (.lst ws) ∧ NAts H ws ((prl.getD e.toNat []).map pN) := by
  have il : e.toNat < prl.length := by omega
  obtain ⟨q, ws, a, b, c⟩ := h.2 e.toNat prl[e.toNat] (List.getElem?_eq_getElem il)
  refine ⟨q, ws, ?_, b, ?_⟩
  · obtain ⟨n, rfl⟩ := Int.eq_ofNat_of_zero_le e0
    exact atI_nat a
  · rw [List.getD_eq_getElem?_getD, List.getElem?_eq_getElem il]
    exact c
structure ThereAt (w : World) (H : Hp) (d : Addr) (kvs : List NE) (n1 n2 : Int) (t : NK → Bool) : Prop where
  d : H d = some (dN w d kvs)
  ko : KeysOk H kvs
  ks : kvs.map (·.1) = gridK n1 n2
  v : ∀ a b : Int, 0 ≤ a → a < n1 → 0 ≤ b → b < n2 → valN kvs (prK a b) = some (.bl (t (prK a b)))
theorem ThereAt.kp {w : World} {H H' : Hp} {d : Addr} {kvs : List NE} {n1 n2 : Int} {t : NK → Bool} (x : TxN H H') (e : H' d = H d) (h : ThereAt w H d kvs n1 n2 t) : ThereAt w H' d kvs n1 n2 t := ⟨by rw [e]; exact h.d, h.ko.tx x, h.ks, h.v⟩
theorem ThereAt.put {w : World} {H : Hp} {d p : Addr} {kvs : List NE} {n1 n2 a b : Int} {t : NK → Bool} {v : Bool} (h : ThereAt w H d kvs n1 n2 t) (a0 : 0 ≤ a) (a1 : a < n1) (b0 : 0 ≤ b) (b1 : b < n2) (np : NAt H (.ref p) (prK a b)) :
    ThereAt w (upd H d (dN w d (putN kvs (prK a b) p (.bl v)))) d (putN kvs (prK a b) p (.bl v)) n1 n2 (fun x => if x = prK a b then v else t x) := by
  refine ⟨upd_same, (KeysOk.put h.ko (prK_depth a b) np).tx (txn_dn h.d), by rw [keys_old (h.v a b a0 a1 b0 b1)]; exact h.ks, fun a' b' h0 h1 h2 h3 => ?_⟩
  rw [valN_put]
  by_cases z : prK a b = prK a' b'
  · rw [if_pos z, if_pos z.symm]
  · rw [if_neg z, if_neg (Ne.symm z)]
    exact h.v a' b' h0 h1 h2 h3
def closedT (n1 n2 : Int) (one two : List (List PairL)) (t : NK → Bool) : Prop := ∀ a b : Int, 0 ≤ a → a < n1 → 0 ≤ b → b < n2 → t (prK a b) = true → ∀ p ∈ rowAt one a, ∃ r ∈ rowAt two b, r.1 = p.1 ∧ t (prK p.2 r.2) = true
def cntT (n1 n2 : Int) (t : NK → Bool) : Nat := (gridK n1 n2).countP t
def soundT (n1 n2 : Int) (L : NK → Prop) (t : NK → Bool) : Prop := ∀ a b : Int, 0 ≤ a → a < n1 → 0 ≤ b → b < n2 → t (prK a b) = false → L (prK a b)
def sp_strike (w : World) : Sp := fun vs H Q _ => ∃ (f : V) (o1 o2 d : Addr) (us1 us2 : List V) (one two : List (List PairL)) (n1 n2 : Int) (kvs : List NE) (t : NK → Bool) (L : NK → Prop), vs = [f, .ref o1, .ref o2, .ref d] ∧ H o1 = some (.lst us1) ∧ H o2 = some (.lst us2) ∧ RowsAt H us1 one ∧ RowsAt H us2 two ∧
  ThereAt w H d kvs n1 n2 t ∧ 1 ≤ n1 ∧ n1 ≤ 5 ∧ 1 ≤ n2 ∧ n2 ≤ 5 ∧ one.length = n1.toNat ∧ two.length = n2.toNat ∧ (∀ r ∈ one, r.length ≤ 100 ∧ ∀ p ∈ r, 0 ≤ p.2 ∧ p.2 < n1) ∧ (∀ r ∈ two, r.length ≤ 100 ∧ ∀ p ∈ r, 0 ≤ p.2 ∧ p.2 < n2) ∧ soundT n1 n2 L t ∧
  (∀ a b : Int, 0 ≤ a → a < n1 → 0 ≤ b → b < n2 → ∀ p ∈ rowAt one a, (∀ r ∈ rowAt two b, r.1 = p.1 → L (prK p.2 r.2)) → L (prK a b)) ∧
  ∀ (c : Bool) kvs' t' H', Ch d H H' → ThereAt w H' d kvs' n1 n2 t' → soundT n1 n2 L t' → (c = false → closedT n1 n2 one two t') → (c = true → cntT n1 n2 t' < cntT n1 n2 t) → (∀ k, t' k = true → t k = true) → Q (.bl c) H'
theorem ok_strike (T : Tp K mg) : FnOk P w K mg base CX0 1 T.a__law_strike T.d__law_strike ["_law_first", "_law_one", "_law_two", "_law_there"] (sp_strike w) := by
  refine T.f__law_strike.ok sc__law_strike (fun vs H Q E h => ?_) (fun cdv A outer s H vs Q E hr h => ?_)
  · obtain ⟨f, o1, o2, d, us1, us2, one, two, n1, n2, kvs, t, L, rfl, _⟩ := h
    rfl
  · obtain ⟨f, o1, o2, d, us1, us2, one, two, n1, n2, kvs, t, L, rfl, h1, h2, r1, r2, th, n11, n12, n21, n22, l1, l2, b1', b2', so, hL, q⟩ := h
    have hu64 := hu64_of hr
    refine ⟨_, (pss_cons (ps_set (i := 4) sc__law_strike.nd rfl (.inl rfl) pe_bl)
  (pss_cons (ps_for PassesOwn.never rfl (pi_list (pe_lock (pe_lcN (own := [("_law_pair", 7)]) (g := gName 7) (tt := tYes) rfl sc__law_strike.nd (pi_keysN (pv 3)) (blkOk_by (N := N__law_strike) (sc := defScope s__law_strike) (by decide +kernel)) (by exact True.intro) (fun _ _ _ _ _ => (pg_name (i := 7) sc__law_strike.nd rfl (.inl rfl))) (fun _ _ _ _ _ => pts_nil) (fun _ _ _ _ _ => GensOk.nil) (fun _ _ _ _ _ => (pv 7))))) (pg_tup (by rfl) (pgs_cons (pg_name (i := 5) sc__law_strike.nd rfl (.inl rfl)) (pgs_cons (pg_name (i := 6) sc__law_strike.nd rfl (.inl rfl)) pgs_nil)))
  (pss_one (ps_if (pt_val (pe_nget hu64 (pv 3) (pe_tup (pa_cons (pv 5) (pa_cons (pv 6) pa_nil))) (fun _ _ => rfl))) (pss_one (ps_for PassesOwn.never rfl (pi_list (pe_ix ix_seq (pv 1) (pv 5) (fun _ _ => rfl))) (pg_tup (by rfl) (pgs_cons (pg_name (i := 8) sc__law_strike.nd rfl (.inr rfl)) (pgs_cons (pg_name (i := 9) sc__law_strike.nd rfl (.inr rfl)) pgs_nil)))
  (pss_cons (ps_setLcN (i := 10) (own := [("_law_pair", 7)]) (g := gName 7) rfl sc__law_strike.nd rfl rfl (sw_true rfl rfl rfl (by decide +kernel)) (pi_list (pe_ix ix_seq (pv 2) (pv 6) (fun _ _ => rfl))) (blkOk_by (N := N__law_strike) (sc := defScope s__law_strike) (by decide +kernel)) (by exact True.intro) (fun _ _ _ _ _ => (pg_name (i := 7) sc__law_strike.nd rfl (.inl rfl))) (fun _ _ _ _ _ => (pts_one (PW.pt (pw_and (pt_cmpR op_eq (pe_ix (ix_seqK (K := K)) (pv 7) pe_int (fun _ _ => rfl)) (pv 8) (nomark _)) (pw_and1 (pt_val (pe_ngetK' (w := w) hu64 (pv 3) (pe_tup (pa_cons (pv 9) (pa_cons (pe_ix (ix_seqK (K := K)) (pv 7) pe_int (fun _ _ => rfl)) pa_nil))) (fun _ _ => rfl)))))))) (fun _ _ _ _ _ => GensOk.nil) (fun _ _ _ _ _ => (pv 7)))
  (pss_one (ps_if (pt_cmpR op_eq (pe_callB c_len (by rfl) T.n_len (by rfl) (pa_cons (pv 10) pa_nil)) pe_int (nomark _)) (pss_cons (ps_nput hu64 (pv 3) (pe_tup (pa_cons (pv 5) (pa_cons (pv 6) pa_nil))) pe_bl rfl)
  (pss_one (ps_set (i := 4) sc__law_strike.nd rfl (.inl rfl) pe_bl))) pss_nil))))) pss_nil)))
  (pss_one (ps_ret (pv 4))))), ?_⟩
    walk_at "g"
    have kl : kvs.length ≤ 25 := by
      have e := congrArg List.length th.ks
      rw [List.length_map, grid_len] at e
      have := Nat.mul_le_mul (show n1.toNat ≤ 5 by omega) (show n2.toNat ≤ 5 by omega)
      omega
    refine lockE_go th.d trivial fun od => ?_
    refine tcn_k (d := d) (o := od) (kvs := kvs) (fun D i Ha => H D = none ∧ Ha d = some (.frz od (dN w d kvs)) ∧ Ch d H Ha ∧ ∃ acc, Ha D = some (.lst acc) ∧ NAts Ha acc ((kvs.take i).map (·.1)))
      (fun R r => r_var rfl r) upd_same (fun D hD => ?_) (fun D i Ha _ p => p.2.1) ?_ ?_
    · have nD : D ≠ d := fun z => by rw [z, upd_same] at hD; cases hD
      have nH : H D = none := by rwa [upd_ne nD] at hD
      exact ⟨nH, by rw [upd_ne (Ne.symm nD)]; exact upd_same, fun b o nb hb => by
        rw [upd_ne (fun z => by rw [z, nH] at hb; cases hb), upd_ne nb]
        exact hb, [], upd_same, by rw [List.take_zero]; exact .nil⟩
    · rintro D i k b v Ha hk ⟨nD, hDa, cA, acc, hD, na⟩
      have he := List.mem_of_getElem? hk
      have il := (List.getElem?_eq_some_iff.mp hk).1
      have step : kvs.take (i + 1) = kvs.take i ++ [(k, b, v)] := by rw [List.take_add_one, hk]; rfl
      refine gname1 ⟨rfl, yes_q (ite_t rfl ?_)⟩
      unfold tIn emL
      refine r_var rfl ?_
      have la := na.len
      rw [List.length_map, List.length_take] at la
      have nDd : D ≠ d := fun z => by rw [z] at nD; rw [th.d] at nD; cases nD
      have tx : TxN Ha (upd Ha D (.lst (acc ++ [V.ref b]))) := (KeepL.at_ (G := Ha) hD (fun _ z => by cases z) (.inr (by rw [hD]; intro z; cases z))).t
      refine ⟨acc, hD, sz_lt (by omega), nD, by rw [upd_ne (Ne.symm nDd)]; exact hDa, chu_up cA nD, acc ++ [.ref b], upd_same, ?_⟩
      rw [step, List.map_append]
      exact (na.tx tx).snoc (((th.ko _ he).2.tx (ofDct (G := fun _ => none) th.d cA).t).tx tx)
    · rintro D Ha ⟨nD, hDa, cA, acc, hD, na⟩
      refine ⟨hDa, ?_⟩
      rw [List.take_length, th.ks] at na
      have e2 := unlk th.d cA
      have nDd : D ≠ d := fun z => by rw [z] at nD; rw [th.d] at nD; cases nD
      have tx : TxN Ha (upd Ha d (dN w d kvs)) := (KeepL.at_ (G := Ha) hDa (fun _ z => by cases z) (.inl (fun _ z => by cases z))).t
      have hD2 : (upd Ha d (dN w d kvs)) D = some (.lst acc) := by rw [upd_ne nDd]; exact hD
      replace na := na.tx tx
      generalize (upd Ha d (dN w d kvs)) = H2 at e2 hD2 na
      have th2 := th.kp (ex_txn e2) ((e2 _ _ th.d).trans th.d.symm)
      walk_at "g"
      refine ll_go (SqL.of hD2) (fun i σ' Hb => ∃ c y5 y6 y7 y8 y9 y10 kvs' t', σ' = [some f, some (.ref o1), some (.ref o2), some (.ref d), some (.bl c), y5, y6, y7, y8, y9, y10] ∧ Ch d H2 Hb ∧ ThereAt w Hb d kvs' n1 n2 t' ∧ soundT n1 n2 L t' ∧ (cntT n1 n2 t' ≤ cntT n1 n2 t ∧ ∀ k, t' k = true → t k = true) ∧ (c = true → cntT n1 n2 t' < cntT n1 n2 t) ∧ (c = false → t' = t) ∧
          (c = false → ∀ k ∈ (gridK n1 n2).take i, ∀ a b : Int, k = prK a b → t k = true → ∀ p ∈ rowAt one a, ∃ r ∈ rowAt two b, r.1 = p.1 ∧ t (prK p.2 r.2) = true))
        ⟨false, _, _, _, _, _, _, kvs, t, rfl, fun _ _ _ h => h, th2, so, ⟨Nat.le_refl _, fun _ h => h⟩, (fun z => nomatch z), fun _ => rfl, fun _ k hk => by rw [List.take_zero] at hk; cases hk⟩ (fun i σ' Hb _ z => by
          obtain ⟨_, _, _, _, _, _, _, _, _, _, c, _⟩ := z
          exact SqL.of (c _ _ nDd hD2)) ?_ ?_
      · rintro i x σ' Hb hx ⟨c, y5, y6, y7, y8, y9, y10, kvs', t', rfl, cB, thB, soB, cle, clt, ceq, cl⟩
        have kB : KeepL (fun _ => none) H2 Hb := ofDct th2.d cB
        obtain ⟨k, hk, nk⟩ := (na.tx kB.t).get hx
        obtain ⟨a, b, ⟨a0, a1⟩, ⟨b0, b1⟩, rfl⟩ := mem_grid.mp (List.mem_of_getElem? hk)
        have gstep : (gridK n1 n2).take (i + 1) = (gridK n1 n2).take i ++ [prK a b] := by rw [List.take_add_one, hk]; rfl
        obtain ⟨pp, px, rfl, hpx, npx⟩ := id (show NAt Hb x (.tup [.int a, .int b]) from nk).tupOf
        cases npx with
        | cons m1 nr =>
        cases nr with
        | cons m2 nr =>
        cases nr
        cases m1
        cases m2
        refine gtup2 hpx (gnames2 ?_)
        walk_at "g"
        refine r_nget (r_var rfl ?_)
        walk_at "g"
        refine tup_go (ks := [.int a, .int b]) (.cons (.int _) (.cons (.int _) .nil)) fun q1 Hc n1' e3 aq _ => ?_
        replace aq : NAt Hc (.ref q1) (prK a b) := aq
        have thC := thB.kp (ex_txn e3) ((e3 _ _ thB.d).trans thB.d.symm)
        refine ⟨d, _, rfl, ⟨kvs', prK a b, q1, .inl thC.d, thC.ko, rfl, prK_depth a b, aq, (thC.v a b a0 a1 b0 b1).symm⟩, ?_⟩
        have cC := chu_ex cB e3
        have kC := kB.trans (KeepL.ex (G := fun _ => none) e3)
        by_cases tv : t' (prK a b) = true
        · rw [tv]
          walk_at "g"
          refine ite_t rfl ?_
          have kHC : KeepL (fun _ => none) H Hc := (KeepL.ex e2).trans kC
          obtain ⟨qa, wa, ia, hqa, nqa⟩ := rows_ix (r1.kp kHC) a0 (show a < one.length by omega)
          obtain ⟨qb, wb, ib, hqb, nqb⟩ := rows_ix (r2.kp kHC) b0 (show b < two.length by omega)
          replace nqa : NAts Hc wa ((rowAt one a).map pN) := nqa
          replace nqb : NAts Hc wb ((rowAt two b).map pN) := nqb
          have la := nqa.len
          have lb := nqb.len
          rw [List.length_map] at la lb
          have ra : ∀ p ∈ rowAt one a, 0 ≤ p.2 ∧ p.2 < n1 := by
            unfold rowAt
            rw [List.getD_eq_getElem?_getD, List.getElem?_eq_getElem (show a.toNat < one.length by omega)]
            exact (b1' _ (List.getElem_mem _)).2
          have rb : (rowAt two b).length ≤ 100 ∧ ∀ p ∈ rowAt two b, 0 ≤ p.2 ∧ p.2 < n2 := by
            unfold rowAt
            rw [List.getD_eq_getElem?_getD, List.getElem?_eq_getElem (show b.toNat < two.length by omega)]
            exact b2' _ (List.getElem_mem _)
          walk_at "g"
          refine ix_l (SqL.of (kHC.l _ _ rfl h1)) ia ?_
          refine ll_go (SqL.of hqa) (fun j σ' Hd => ∃ c y7 y8 y9 y10 kvs' t', σ' = [some f, some (.ref o1), some (.ref o2), some (.ref d), some (.bl c), some (.int a), some (.int b), y7, y8, y9, y10] ∧ Ch d Hc Hd ∧ ThereAt w Hd d kvs' n1 n2 t' ∧ soundT n1 n2 L t' ∧ (cntT n1 n2 t' ≤ cntT n1 n2 t ∧ ∀ k, t' k = true → t k = true) ∧ (c = true → cntT n1 n2 t' < cntT n1 n2 t) ∧ (c = false → t' = t ∧ t (prK a b) = true) ∧
              (c = false → ∀ k ∈ (gridK n1 n2).take i, ∀ a b : Int, k = prK a b → t k = true → ∀ p ∈ rowAt one a, ∃ r ∈ rowAt two b, r.1 = p.1 ∧ t (prK p.2 r.2) = true) ∧ (c = false → ∀ p ∈ (rowAt one a).take j, ∃ r ∈ rowAt two b, r.1 = p.1 ∧ t (prK p.2 r.2) = true))
            ⟨c, _, _, _, _, kvs', t', rfl, fun _ _ _ h => h, thC, soB, cle, clt, fun z => ⟨ceq z, by rw [← ceq z]; exact tv⟩, cl, fun _ p hp => by rw [List.take_zero] at hp; cases hp⟩ (fun j σ' Hd _ z => by
              obtain ⟨_, _, _, _, _, _, _, _, cc, _⟩ := z
              exact SqL.of ((ofDct (G := fun _ => none) thC.d cc).l _ _ rfl hqa)) ?_ ?_
          · rintro j v σ' Hd hv ⟨c, y7, y8, y9, y10, kvs', t', rfl, cD, thD, soD, cle, clt, ceq, cl, cj⟩
            have kD : KeepL (fun _ => none) Hc Hd := ofDct thC.d cD
            obtain ⟨pk, hpk, npk⟩ := (nqa.tx kD.t).get hv
            rw [List.getElem?_map] at hpk
            obtain ⟨p, hp, rfl⟩ := Option.map_eq_some_iff.mp hpk
            have pm := List.mem_of_getElem? hp
            have jstep : (rowAt one a).take (j + 1) = (rowAt one a).take j ++ [p] := by rw [List.take_add_one, hp]; rfl
            obtain ⟨p1, p2⟩ := p
            obtain ⟨va, vx, rfl, hva, nvx⟩ := id (show NAt Hd v (.tup [.str p1, .int p2]) from npk).tupOf
            cases nvx with
            | cons m1 nr =>
            cases nr with
            | cons m2 nr =>
            cases nr
            cases m1
            cases m2
            refine gtup2 hva (gnames2 ?_)
            refine r_seq ?_
            refine r_asgT ?_
            have hqbD := kD.l _ _ rfl hqb
            have nqbD := nqb.tx kD.t
            have hwa := ra _ pm
            have ho2 : Hd o2 = some (.lst us2) := kD.l _ _ rfl (kHC.l _ _ rfl h2)
            refine tcn_l (a := qb) (xs := wb) (fun D m He => Hd D = none ∧ Ex Hd He ∧ ∃ acc, He D = some (.lst acc) ∧ acc.length = (((rowAt two b).take m).filter fun r => decide (r.1 = p1) && t' (prK p2 r.2)).length)
              (fun R r => r_op (r_var rfl (r_var rfl (ix_l (SqL.of ho2) ib r)))) (SqL.of hqbD) (fun D hD => ⟨hD, Ex.new hD, [], upd_same, by rw [List.take_zero]; rfl⟩) (fun D m He _ z => SqL.of (z.2.1 _ _ hqbD)) ?_ ?_
            · rintro D m x He hx ⟨nD, eE, acc, hD, ac⟩
              obtain ⟨rk, hrk, nrk⟩ := (nqbD.tx (ex_txn eE)).get hx
              rw [List.getElem?_map] at hrk
              obtain ⟨r, hr', rfl⟩ := Option.map_eq_some_iff.mp hrk
              have rm := List.mem_of_getElem? hr'
              have ml := (List.getElem?_eq_some_iff.mp hr').1
              obtain ⟨r1', r2'⟩ := r
              have mstep : ((rowAt two b).take (m + 1)).filter (fun r => decide (r.1 = p1) && t' (prK p2 r.2)) = ((rowAt two b).take m).filter (fun r => decide (r.1 = p1) && t' (prK p2 r.2)) ++ if (decide (r1' = p1) && t' (prK p2 r2')) = true then [(r1', r2')] else [] := by
                rw [List.take_add_one, hr', List.filter_append]
                congr 1
                by_cases z : (decide (r1' = p1) && t' (prK p2 r2')) = true
                · rw [if_pos z]
                  exact List.filter_cons_of_pos z
                · rw [if_neg z]
                  exact List.filter_cons_of_neg z
              obtain ⟨xa, xx, rfl, hxa, nxx⟩ := id (show NAt He x (.tup [.str r1', .int r2']) from nrk).tupOf
              cases nxx with
              | cons m1 nr =>
              cases nr with
              | cons m2 nr =>
              cases nr
              cases m1
              cases m2
              have rr := rb.2 _ rm
              refine gname1 ⟨rfl, ?_⟩
              walk_at "g"
              refine ix_t (.inl (.inl hxa)) (show atI _ 0 = some (.str r1') from rfl) ?_
              walk_at "g"
              have ale : (((rowAt two b).take m).filter fun r => decide (r.1 = p1) && t' (prK p2 r.2)).length ≤ m := by
                refine Nat.le_trans (List.length_filter_le _ _) ?_
                rw [List.length_take]
                omega
              by_cases z1 : r1' = p1
              · refine ite_t (decide_eq_true (congrArg V.str z1)) ?_
                walk_at "g"
                refine r_nget (r_var rfl ?_)
                walk_at "g"
                refine ix_t (.inl (.inl hxa)) (show atI _ 1 = some (.int r2') from rfl) ?_
                walk_at "g"
                refine tup_go (ks := [.int p2, .int r2']) (.cons (.int _) (.cons (.int _) .nil)) fun q2 Hf n2' eF a2' _ => ?_
                replace a2' : NAt Hf (.ref q2) (prK p2 r2') := a2'
                have thF := thD.kp (ex_txn (eE.trans eF)) (((eE.trans eF) _ _ thD.d).trans thD.d.symm)
                refine ⟨d, _, rfl, ⟨kvs', prK p2 r2', q2, .inl thF.d, thF.ko, rfl, prK_depth _ _, a2', (thF.v p2 r2' hwa.1 hwa.2 rr.1 rr.2).symm⟩, ?_⟩
                have hDF := eF _ _ hD
                cases tz : t' (prK p2 r2') with
                | true =>
                  walk_at "g"
                  refine ite_t rfl ?_
                  unfold tIn emL
                  refine r_var rfl ?_
                  refine ⟨acc, hDF, sz_lt (by omega), nD, ex_upd (eE.trans eF) nD, acc ++ [.ref xa], upd_same, ?_⟩
                  rw [mstep, if_pos (by rw [decide_eq_true z1, tz]; rfl), List.length_append, List.length_append, ac]
                  rfl
                | false =>
                  walk_at "g"
                  refine ite_f rfl ?_
                  refine ⟨nD, eE.trans eF, acc, hDF, ?_⟩
                  rw [mstep, if_neg (by rw [decide_eq_true z1, tz]; decide), List.append_nil, ac]
              · refine ite_f (decide_eq_false fun z => z1 (V.str.inj z)) ?_
                walk_at "g"
                refine ite_f rfl ?_
                refine ⟨nD, eE, acc, hD, ?_⟩
                rw [mstep, if_neg (by rw [decide_eq_false z1, Bool.false_and]; decide), List.append_nil, ac]
            · rintro D He ⟨nD, eE, acc, hD, ac⟩
              rw [lb, List.take_length] at ac
              refine gname1 ?_
              walk_at "g"
              refine len_l (SqL.of hD) ?_
              walk_at "g"
              have thE := thD.kp (ex_txn eE) ((eE _ _ thD.d).trans thD.d.symm)
              have cE := chu_ex cD eE
              by_cases emp : acc.length = 0
              · refine ite_t (by rw [emp]; rfl) ?_
                have none_ok : ∀ r ∈ rowAt two b, r.1 = p1 → t' (prK p2 r.2) = false := fun r hr0 e => by
                  rw [emp] at ac
                  have fe := List.length_eq_zero_iff.mp ac.symm
                  have := List.filter_eq_nil_iff.mp fe r hr0
                  rw [decide_eq_true e, Bool.true_and] at this
                  cases zz : t' (prK p2 r.2)
                  · rfl
                  · exact absurd zz this
                have lose : L (prK a b) := hL a b a0 a1 b0 b1 (p1, p2) pm fun r hr0 e => soD p2 r.2 hwa.1 hwa.2 (rb.2 r hr0).1 (rb.2 r hr0).2 (none_ok r hr0 e)
                refine r_seq ?_
                refine r_nput' ?_
                walk_at "g"
                refine tup_go (ks := [.int a, .int b]) (.cons (.int _) (.cons (.int _) .nil)) fun q3 Hf n3' eF a3' _ => ?_
                replace a3' : NAt Hf (.ref q3) (prK a b) := a3'
                have thF := thE.kp (ex_txn eF) ((eF _ _ thE.d).trans thE.d.symm)
                have kl' : kvs'.length ≤ 25 := by
                  have e := congrArg List.length thF.ks
                  rw [List.length_map, grid_len] at e
                  have := Nat.mul_le_mul (show n1.toNat ≤ 5 by omega) (show n2.toNat ≤ 5 by omega)
                  omega
                refine ⟨d, upd Hf d (dN w d (putN kvs' (prK a b) q3 (.bl false))), rfl, ⟨kvs', prK a b, q3, thF.d, thF.ko, rfl, prK_depth _ _, a3', sz_lt (by omega), rfl⟩, ?_⟩
                have thG := thF.put (v := false) a0 a1 b0 b1 a3'
                have cG : Ch d Hc (upd Hf d (dN w d (putN kvs' (prK a b) q3 (.bl false)))) := fun x o nx hx => by
                  rw [upd_ne nx]
                  exact eF _ _ (cE x o nx hx)
                generalize (upd Hf d (dN w d (putN kvs' (prK a b) q3 (.bl false)))) = Hg at thG cG
                walk_at "g"
                refine ⟨true, _, _, _, _, _, _, rfl, cG, thG, fun a' b' h0 h1 h2 h3 ht => ?_, ?_, fun _ => ?_, (fun z => nomatch z), (fun z => nomatch z), fun z => nomatch z⟩
                · by_cases z : prK a' b' = prK a b
                  · rw [z]
                    exact lose
                  · replace ht : (if prK a' b' = prK a b then false else t' (prK a' b')) = false := ht
                    rw [if_neg z] at ht
                    exact soD a' b' h0 h1 h2 h3 ht
                · refine ⟨Nat.le_trans cnt_le cle.1, fun k hk => cle.2 k ?_⟩
                  replace hk : (if k = prK a b then false else t' k) = true := hk
                  split at hk
                  · cases hk
                  · exact hk
                · cases c with
                  | true => exact Nat.lt_of_le_of_lt cnt_le (clt rfl)
                  | false =>
                    obtain ⟨rfl, tk⟩ := ceq rfl
                    exact cnt_lt tk (mem_grid.mpr ⟨a, b, ⟨a0, a1⟩, ⟨b0, b1⟩, rfl⟩)
              · refine ite_f (decide_eq_false fun z => emp (by have := V.int.inj z; omega)) ?_
                walk_at "g"
                refine ⟨c, _, _, _, _, kvs', t', rfl, cE, thE, soD, cle, clt, ceq, cl, fun z pp hpp => ?_⟩
                rw [jstep] at hpp
                rcases List.mem_append.mp hpp with hpp | hpp
                · exact cj z pp hpp
                · rw [List.mem_singleton.mp hpp]
                  have pos : 0 < ((rowAt two b).filter fun r => decide (r.1 = p1) && t' (prK p2 r.2)).length := by omega
                  obtain ⟨r, hr0⟩ := List.exists_mem_of_length_pos pos
                  obtain ⟨hm, hc⟩ := List.mem_filter.mp hr0
                  rw [Bool.and_eq_true] at hc
                  refine ⟨r, hm, of_decide_eq_true hc.1, ?_⟩
                  rw [← (ceq z).1]
                  exact hc.2
          · rintro σ' Hd ⟨c, y7, y8, y9, y10, kvs', t', rfl, cD, thD, soD, cle, clt, ceq, cl, cj⟩
            rw [la, List.take_length] at cj
            refine ⟨c, _, _, _, _, _, _, kvs', t', rfl, fun b o nb hb => cD b o nb (cC b o nb hb), thD, soD, cle, clt, fun z => (ceq z).1, fun z k hk a' b' e ht => ?_⟩
            rw [gstep] at hk
            rcases List.mem_append.mp hk with hk | hk
            · exact cl z k hk a' b' e ht
            · rw [List.mem_singleton.mp hk] at e
              obtain ⟨rfl, rfl⟩ := prK_inj e
              exact cj z
        · have tf : t' (prK a b) = false := by
            cases z : t' (prK a b)
            · rfl
            · exact absurd z tv
          rw [tf]
          refine ⟨_, rfl, ite_f rfl ?_⟩
          walk_at "g"
          refine ⟨c, _, _, _, _, _, _, kvs', t', rfl, cC, thC, soB, cle, clt, ceq, fun z k hk a' b' e ht => ?_⟩
          rw [gstep] at hk
          rcases List.mem_append.mp hk with hk | hk
          · exact cl z k hk a' b' e ht
          · rw [List.mem_singleton.mp hk] at ht
            rw [← ceq z, tf] at ht
            cases ht
      · rintro σ' Hb ⟨c, y5, y6, y7, y8, y9, y10, kvs', t', rfl, cB, thB, soB, cle, clt, ceq, cl⟩
        walk_at "g"
        refine q c kvs' t' Hb (fun b o nb hb => cB b o nb (e2 _ _ hb)) thB soB (fun z a b a0 a1 b0 b1 ht p hp => ?_) clt cle.2
        have e := ceq z
        subst e
        rw [na.len, List.take_length] at cl
        exact cl z (prK a b) (mem_grid.mpr ⟨a, b, ⟨a0, a1⟩, ⟨b0, b1⟩, rfl⟩) a b rfl ht p hp
end

end K12

set_option Elab.async false
set_option linter.all false
set_option maxRecDepth 100000
set_option maxHeartbeats 2000000
namespace K12
open PySem PySem.Spec PyProof.Rows L2 Evl AE
local macro_rules | `(tactic| walk_at "c") => `(tactic| first | exact ⟨by decide, by decide⟩ | exact .inr ⟨by decide, by decide⟩ | exact .inl ⟨by decide, by decide⟩ | exact ⟨by decide, by decide, by decide⟩ | (show (0 : Int) < _; decide))
local macro_rules | `(tactic| walk_at "s") => `(tactic| first
  | (with_reducible refine r_var rfl ?_) | (with_reducible refine r_c ?_) | (with_reducible refine r_op ?_) | (with_reducible refine r_un ?_) | (with_reducible refine r_I0 ?_) | (with_reducible refine r_U ?_)
  | (with_reducible refine r_eq rfl ?_) | (with_reducible refine r_ne rfl ?_) | (with_reducible refine r_chain ?_) | (with_reducible refine r_test ?_) | (with_reducible refine r_tB ?_)
  | (with_reducible refine r_bl ?_) | (with_reducible refine r_and ?_) | (with_reducible refine r_or ?_) | (with_reducible refine r_not ?_) | (with_reducible refine r_nil ?_) | (with_reducible refine r_cons ?_)
  | (with_reducible refine r_tupK ?_) | (with_reducible refine r_lstK ?_) | (with_reducible refine r_cb ?_) | (with_reducible refine r_revL ?_) | (with_reducible refine r_ost ?_) | (with_reducible refine r_mkO ?_) | (with_reducible refine r_makeK ?_) | (with_reducible refine r_make ?_) | (with_reducible refine r_setdN ?_) | (with_reducible refine r_nget2 ?_) | (with_reducible refine r_nnew ?_) | (with_reducible refine r_call ?_) | (with_reducible refine r_seq ?_) | (with_reducible refine r_set ?_)
  | (with_reducible refine r_drop ?_) | (with_reducible refine r_ret ?_) | (with_reducible refine r_next ?_) | (with_reducible refine r_if ?_) | (with_reducible refine r_sl ?_) | (with_reducible refine r_nop ?_) | (with_reducible refine r_prt ?_) | (with_reducible refine r_some ?_)
  | (with_reducible refine add_int ?_) | (with_reducible refine int_i ?_) | (with_reducible refine r_forR1 ?_) | (with_reducible refine r_forR2 ?_) | (with_reducible refine r_meth ?_) | (with_reducible refine r_makeS ?_) | (with_reducible refine r_opS ?_) | (with_reducible refine r_makeRS ?_) | (with_reducible refine r_methH ?_) | (with_reducible refine r_callS ?_) | (with_reducible refine r_forL ?_) | (with_reducible refine r_andV ?_) | (with_reducible refine r_orV ?_) | (with_reducible refine r_notV ?_) | (with_reducible refine r_ifE ?_) | (with_reducible refine r_lcL ?_) | (with_reducible refine r_fld ?_) | (with_reducible refine r_get ?_) | (with_reducible refine r_din ?_) | (with_reducible refine r_dget2 ?_) | ((with_reducible refine r_I ?_ ?_); (walk_at "c")))
local macro_rules | `(tactic| walk_at "g") => `(tactic| repeat walk_at "s")
section
variable {P : Program} {w : World} {K : PySem.W.Frag} {mg : Str → Option Value} {base : Heap}
def oneL (p : PlainD) (asks : List Str) : List (List PairL) := (List.range p.n.toNat).map fun (st : Nat) => lpairs p asks (st : Int) asks.length
def startT (p1 p2 : PlainD) : NK → Bool
  | .tup [.int a, .int b] => !decide (a ∈ p1.ms) || decide (b ∈ p2.ms)
  | _ => false
def sp_follows (K : PySem.W.Frag) : Sp := fun vs H Q _ => ∃ (b1 b2 ak am1 as1 am2 as2 : Addr) (p1 p2 : PlainD) (ws1 ws2 : List V) (asks : List Str) (L : NK → Prop), vs = [.ref b1, .ref b2, .ref ak] ∧ PlainAt H b1 p1 am1 as1 ws1 ∧ PlainAt H b2 p2 am2 as2 ws2 ∧ OkQ p1 ∧ OkQ p2 ∧ SqL K H ak (asks.map V.str) ∧ asks.length ≤ 4 ∧
  (∀ a b : Int, 0 ≤ a → a < p1.n → 0 ≤ b → b < p2.n → a ∈ p1.ms → b ∉ p2.ms → L (prK a b)) ∧
  (∀ a b : Int, 0 ≤ a → a < p1.n → 0 ≤ b → b < p2.n → ∀ p ∈ rowAt (oneL p1 asks) a, (∀ r ∈ rowAt (oneL p2 asks) b, r.1 = p.1 → L (prK p.2 r.2)) → L (prK a b)) ∧
  ∀ (t : NK → Bool) H', Ex H H' → soundT p1.n p2.n L t → closedT p1.n p2.n (oneL p1 asks) (oneL p2 asks) t → (∀ k, t k = true → startT p1 p2 k = true) → Q (.bl (t (prK p1.now p2.now))) H'
theorem one_row {p : PlainD} {asks : List Str} (ok : OkQ p) (al : asks.length ≤ 4) : ∀ r ∈ oneL p asks, r.length ≤ 100 ∧ ∀ q ∈ r, 0 ≤ q.2 ∧ q.2 < p.n := by
  intro r hr
  obtain ⟨st, _, rfl⟩ := List.mem_map.mp hr
  refine ⟨?_, fun q hq => ?_⟩
  · have n5 := ok.n5
    have le : ∀ j, (lpairs p asks (st : Int) j).length ≤ 5 * j := fun j => by
      induction j with
      | zero => exact Nat.le_refl _
      | succ j ih =>
        unfold lpairs at ih ⊢
        rw [List.take_add_one, List.flatMap_append, List.length_append]
        cases z : asks[j]? with
        | none =>
          show _ + 0 ≤ _
          omega
        | some x =>
          have := lpInn_len p.ss (st : Int) x p.n.toNat
          show _ + ([x].flatMap fun x => lpInn p.ss (st : Int) x p.n.toNat).length ≤ _
          rw [List.flatMap_singleton]
          omega
    have := le asks.length
    omega
  · unfold lpairs at hq
    obtain ⟨x, _, hx⟩ := List.mem_flatMap.mp hq
    unfold lpInn at hx
    obtain ⟨e, he, rfl⟩ := List.mem_map.mp hx
    have := List.mem_range.mp (List.mem_filter.mp he).1
    have n1 := ok.n1
    exact ⟨by show (0 : Int) ≤ (e : Int); omega, by show (e : Int) < p.n; omega⟩
theorem ok_follows (T : Tp K mg) : FnOk P w K mg base CX0 2 T.a__law_follows T.d__law_follows ["_law_first", "_law_second", "_law_asks_here"] (sp_follows K) := by
  have G__law_pairs := ok_pairs2 (P := P) (w := w) (base := base) T
  have G__law_strike := ok_strike (P := P) (w := w) (base := base) T
  refine T.f__law_follows.ok sc__law_follows (fun vs H Q E h => ?_) (fun cdv A outer s H vs Q E hr h => ?_)
  · obtain ⟨b1, b2, ak, am1, as1, am2, as2, p1, p2, ws1, ws2, asks, L, rfl, _⟩ := h
    rfl
  · obtain ⟨b1, b2, ak, am1, as1, am2, as2, p1, p2, ws1, ws2, asks, L, rfl, g1, g2, ok1, ok2, hA, al, hB, hC, q⟩ := h
    have hu64 := hu64_of hr
    refine ⟨_, (pss_cons (ps_set (i := 3) sc__law_follows.nd rfl (.inl rfl) (pe_call G__law_pairs (hr.mono (by decide)) (by rfl) T.g__law_pairs T.f__law_pairs.kp T.b__law_pairs .nil pass0 (pa_cons (pv 0) (pa_cons (pv 2) pa_nil))))
  (pss_cons (ps_set (i := 4) sc__law_follows.nd rfl (.inl rfl) (pe_call G__law_pairs (hr.mono (by decide)) (by rfl) T.g__law_pairs T.f__law_pairs.kp T.b__law_pairs .nil pass0 (pa_cons (pv 1) (pa_cons (pv 2) pa_nil))))
  (pss_cons (ps_set (i := 5) sc__law_follows.nd rfl (.inl rfl) (pe_nnew (X := _)))
  (pss_cons (ps_for PassesOwn.never rfl (pi_range1 rfl T.n_range (pa_cons (pe_ix ix_seq (pv 0) pe_int (fun _ _ => rfl)) pa_nil)) (pg_name (i := 6) sc__law_follows.nd rfl (.inl rfl))
  (pss_one (ps_for PassesOwn.never rfl (pi_range1 rfl T.n_range (pa_cons (pe_ix ix_seq (pv 1) pe_int (fun _ _ => rfl)) pa_nil)) (pg_name (i := 7) sc__law_follows.nd rfl (.inl rfl))
  (pss_one (ps_nput hu64 (pv 5) (pe_tup (pa_cons (pv 6) (pa_cons (pv 7) pa_nil))) (pe_or (pe_cmpR op_notIn_seq (pv 6) (pe_ix ix_seq (pv 0) pe_int (fun _ _ => rfl)) rfl) (pe_one (pe_cmpR op_in_seq (pv 7) (pe_ix ix_seq (pv 1) pe_int (fun _ _ => rfl)) rfl))) rfl)))))
  (pss_cons (ps_for PassesOwn.never rfl (pi_range1 rfl T.n_range (pa_cons (pe_op opAdd (pe_op op_mul (pe_ix ix_seq (pv 0) pe_int (fun _ _ => rfl)) (pe_ix ix_seq (pv 1) pe_int (fun _ _ => rfl))) pe_int) pa_nil)) (pg_name (i := 8) sc__law_follows.nd rfl (.inl rfl))
  (pss_one (ps_if (pt_not (pt_val (pe_call G__law_strike (hr.mono (by decide)) (by rfl) T.g__law_strike T.f__law_strike.kp T.b__law_strike .nil pass0 (pa_cons (pv 0) (pa_cons (pv 3) (pa_cons (pv 4) (pa_cons (pv 5) pa_nil))))))) (pss_one (ps_ret (pe_nget hu64 (pv 5) (pe_tup (pa_cons (pe_ix ix_seq (pv 0) pe_int (fun _ _ => rfl)) (pa_cons (pe_ix ix_seq (pv 1) pe_int (fun _ _ => rfl)) pa_nil))) (fun _ _ => rfl)))) pss_nil)))
  (pss_one (ps_ret pe_bl))))))), ?_⟩
    walk_at "g"
    refine ⟨b1, ak, am1, as1, p1, ws1, asks, rfl, g1, ok1, hA, al, fun l1 us1 H1 n1 e1 h1 r1 => ?_⟩
    walk_at "g"
    refine ⟨b2, ak, am2, as2, p2, ws2, asks, rfl, g2.ex e1, ok2, ex_l e1 hA, al, fun l2 us2 H2 n2 e2 h2 r2 => ?_⟩
    walk_at "g"
    refine nnew_go fun d H3 nd e3 hd => ?_
    walk_at "g"
    have n11 := ok1.n1
    have n12 := ok1.n5
    have n21 := ok2.n1
    have n22 := ok2.n5
    have g1t : ∀ {Hx : Hp}, Ex H Hx → Hx b1 = some (.tup [.int p1.n, .ref am1, .ref as1, .int p1.now]) := fun e => e _ _ g1.1
    have g2t : ∀ {Hx : Hp}, Ex H Hx → Hx b2 = some (.tup [.int p2.n, .ref am2, .ref as2, .int p2.now]) := fun e => e _ _ g2.1
    have e03 := (e1.trans e2).trans e3
    have ndH : H d = none := none_ex (e1.trans e2) nd
    refine ix_t (.inl (.inl (g1t e03))) (show atI _ 0 = some (.int p1.n) from rfl) ?_
    walk_at "g"
    refine lr1_go (fun i σ' Ha => ∃ y6 y7 y8 kvs, σ' = [some (.ref b1), some (.ref b2), some (.ref ak), some (.ref l1), some (.ref l2), some (.ref d), y6, y7, y8] ∧ Ex H2 Ha ∧ Ha d = some (dN w d kvs) ∧ KeysOk Ha kvs ∧ kvs.map (·.1) = gridK i p2.n ∧ ∀ k ∈ kvs.map (·.1), valN kvs k = some (.bl (startT p1 p2 k)))
      ⟨_, _, _, [], rfl, e3, hd, (fun _ z => nomatch z), rfl, fun _ z => nomatch z⟩ ⟨by omega, by omega⟩ ?_ ?_
    · rintro i σ' Ha hi ⟨y6, y7, y8, kvs, rfl, eA, hdA, ko, ks, kv⟩
      walk_at "g"
      refine ix_t (.inl (.inl (g2t ((e1.trans e2).trans eA)))) (show atI _ 0 = some (.int p2.n) from rfl) ?_
      walk_at "g"
      refine lr1_go (fun j σ' Hb => ∃ y7 y8 kvs, σ' = [some (.ref b1), some (.ref b2), some (.ref ak), some (.ref l1), some (.ref l2), some (.ref d), some (.int i), y7, y8] ∧ Ex H2 Hb ∧ Hb d = some (dN w d kvs) ∧ KeysOk Hb kvs ∧ kvs.map (·.1) = gridK i p2.n ++ (List.range j).map (fun (b : Nat) => prK i b) ∧ ∀ k ∈ kvs.map (·.1), valN kvs k = some (.bl (startT p1 p2 k)))
        ⟨_, _, kvs, rfl, eA, hdA, ko, by rw [ks]; exact (List.append_nil _).symm, kv⟩ ⟨by omega, by omega⟩ ?_ ?_
      · rintro j σ' Hb hj ⟨y7, y8, kvs, rfl, eB, hdB, ko, ks, kv⟩
        walk_at "g"
        refine r_nput' ?_
        walk_at "g"
        have sv : startT p1 p2 (prK (i : Int) (j : Int)) = (!decide ((i : Int) ∈ p1.ms) || decide ((j : Int) ∈ p2.ms)) := rfl
        have eHB := (e1.trans e2).trans eB
        have nk : prK (i : Int) (j : Int) ∉ kvs.map (·.1) := fun z => by
          rw [ks] at z
          rcases List.mem_append.mp z with z | z
          · obtain ⟨a', b', ⟨_, h2⟩, _, e⟩ := mem_grid.mp z
            have := (prK_inj e).1
            omega
          · obtain ⟨b', hb', e⟩ := List.mem_map.mp z
            have := (prK_inj e).2
            have := List.mem_range.mp hb'
            omega
        have kl : kvs.length ≤ 50 := by
          have e := congrArg List.length ks
          rw [List.length_map, List.length_append, grid_len, List.length_map, List.length_range] at e
          have := Nat.mul_le_mul (show ((i : Int)).toNat ≤ 5 by omega) (show p2.n.toNat ≤ 5 by omega)
          omega
        refine ix_t (.inl (.inl (g1t eHB))) (show atI _ 1 = some (.ref am1) from rfl) ?_
        refine ⟨am1, p1.ms.map V.int, rfl, .inl (SqL.of (eHB _ _ g1.2.1)), rfl, flat_ints _, ?_⟩
        rw [inV_int]
        refine ⟨_, rfl, ?_⟩
        by_cases za : (i : Int) ∈ p1.ms
        · refine ite_f (show (!decide ((i : Int) ∈ p1.ms)) = false by rw [decide_eq_true za]; rfl) ?_
          walk_at "g"
          refine ix_t (.inl (.inl (g2t eHB))) (show atI _ 1 = some (.ref am2) from rfl) ?_
          refine ⟨am2, p2.ms.map V.int, rfl, .inl (SqL.of (eHB _ _ g2.2.1)), rfl, flat_ints _, ?_⟩
          rw [inV_int]
          walk_at "g"
          refine tup_go (ks := [.int (i : Int), .int (j : Int)]) (.cons (.int _) (.cons (.int _) .nil)) fun q1 Hc nc eC aq _ => ?_
          replace aq : NAt Hc (.ref q1) (prK i j) := aq
          have hdC := eC _ _ hdB
          refine ⟨d, upd Hc d (dN w d (putN kvs (prK i j) q1 (.bl (decide ((j : Int) ∈ p2.ms))))), rfl, ⟨kvs, prK i j, q1, hdC, ko.tx (ex_txn eC), rfl, prK_depth _ _, aq, sz_lt (by omega), rfl⟩, ?_⟩
          refine ⟨_, _, putN kvs (prK i j) q1 (.bl (decide ((j : Int) ∈ p2.ms))), rfl, ex_upd (eB.trans eC) nd, upd_same, (KeysOk.put (ko.tx (ex_txn eC)) (prK_depth _ _) aq).tx (txn_dn hdC), ?_, fun k hk => ?_⟩
          · rw [putN_new (valN_none.mpr nk), List.map_append, ks, List.range_succ, List.map_append, List.append_assoc]
            rfl
          · rw [valN_put]
            by_cases z : prK (i : Int) (j : Int) = k
            · rw [if_pos z, ← z, sv]
              rw [decide_eq_true za]
              rfl
            · rw [if_neg z]
              refine kv k ?_
              rw [putN_new (valN_none.mpr nk), List.map_append] at hk
              rcases List.mem_append.mp hk with hk | hk
              · exact hk
              · exact absurd (List.mem_singleton.mp hk).symm z
        · refine ite_t (show (!decide ((i : Int) ∈ p1.ms)) = true by rw [decide_eq_false za]; rfl) ?_
          walk_at "g"
          refine tup_go (ks := [.int (i : Int), .int (j : Int)]) (.cons (.int _) (.cons (.int _) .nil)) fun q1 Hc nc eC aq _ => ?_
          replace aq : NAt Hc (.ref q1) (prK i j) := aq
          have hdC := eC _ _ hdB
          refine ⟨d, upd Hc d (dN w d (putN kvs (prK i j) q1 (.bl true))), rfl, ⟨kvs, prK i j, q1, hdC, ko.tx (ex_txn eC), rfl, prK_depth _ _, aq, sz_lt (by omega), rfl⟩, ?_⟩
          refine ⟨_, _, putN kvs (prK i j) q1 (.bl true), rfl, ex_upd (eB.trans eC) nd, upd_same, (KeysOk.put (ko.tx (ex_txn eC)) (prK_depth _ _) aq).tx (txn_dn hdC), ?_, fun k hk => ?_⟩
          · rw [putN_new (valN_none.mpr nk), List.map_append, ks, List.range_succ, List.map_append, List.append_assoc]
            rfl
          · rw [valN_put]
            by_cases z : prK (i : Int) (j : Int) = k
            · rw [if_pos z, ← z, sv]
              rw [decide_eq_false za]
              rfl
            · rw [if_neg z]
              refine kv k ?_
              rw [putN_new (valN_none.mpr nk), List.map_append] at hk
              rcases List.mem_append.mp hk with hk | hk
              · exact hk
              · exact absurd (List.mem_singleton.mp hk).symm z
      · rintro σ' Hb ⟨y7, y8, kvs, rfl, eB, hdB, ko, ks, kv⟩
        walk_at "g"
        refine ⟨_, _, _, kvs, rfl, eB, hdB, ko, ?_, kv⟩
        rw [ks]
        unfold gridK
        rw [show ((i + 1 : Nat) : Int).toNat = i + 1 from rfl, show ((i : Nat) : Int).toNat = i from rfl, List.range_succ, List.flatMap_append, List.flatMap_singleton]
    · rintro σ' Ha ⟨y6, y7, y8, kvs, rfl, eA, hdA, ko, ks, kv⟩
      walk_at "g"
      have pb : p1.n * p2.n ≤ 5 * 5 := Int.mul_le_mul n12 n22 (by omega) (by decide)
      have pp : 0 ≤ p1.n * p2.n := Int.mul_nonneg (by omega) (by omega)
      have pt : (p1.n * p2.n).toNat = p1.n.toNat * p2.n.toNat := by
        obtain ⟨x, hx⟩ := Int.eq_ofNat_of_zero_le (show 0 ≤ p1.n by omega)
        obtain ⟨y, hy⟩ := Int.eq_ofNat_of_zero_le (show 0 ≤ p2.n by omega)
        rw [hx, hy]
        rfl
      have eHA := (e1.trans e2).trans eA
      refine ix_t (.inl (.inl (g1t eHA))) (show atI _ 0 = some (.int p1.n) from rfl) ?_
      refine r_op ?_
      walk_at "g"
      refine ix_t (.inl (.inl (g2t eHA))) (show atI _ 0 = some (.int p2.n) from rfl) ?_
      refine r_I (.inl ⟨by omega, by omega⟩) ?_
      walk_at "g"
      rw [Int.toNat_of_nonneg (show 0 ≤ p1.n by omega)] at ks
      have th : ThereAt w Ha d kvs p1.n p2.n (startT p1 p2) := ⟨hdA, ko, ks, fun a b a0 a1 b0 b1 => kv _ (by rw [ks]; exact mem_grid.mpr ⟨a, b, ⟨a0, a1⟩, ⟨b0, b1⟩, rfl⟩)⟩
      refine lr1_go (fun i σ' Hb => ∃ y8 kvs t, σ' = [some (.ref b1), some (.ref b2), some (.ref ak), some (.ref l1), some (.ref l2), some (.ref d), y6, y7, y8] ∧ Ex H2 Hb ∧ ThereAt w Hb d kvs p1.n p2.n t ∧ soundT p1.n p2.n L t ∧ (∀ k, t k = true → startT p1 p2 k = true) ∧ cntT p1.n p2.n t + i ≤ p1.n.toNat * p2.n.toNat)
        ⟨_, kvs, startT p1 p2, rfl, eA, th, fun a b a0 a1 b0 b1 ht => ?_, fun _ h => h, ?_⟩ ⟨by omega, by omega⟩ ?_ ?_
      · have ht2 : (!decide (a ∈ p1.ms) || decide (b ∈ p2.ms)) = false := ht
        rw [Bool.or_eq_false_iff] at ht2
        exact hB a b a0 a1 b0 b1 (by simpa using ht2.1) (of_decide_eq_false ht2.2)
      · unfold cntT
        have := List.countP_le_length (l := gridK p1.n p2.n) (p := startT p1 p2)
        rw [grid_len] at this
        omega
      · rintro i σ' Hb hi ⟨y8, kvs, t, rfl, eB, thB, so, mo, cn⟩
        have eHB := (e1.trans e2).trans eB
        walk_at "g"
        refine ⟨_, l1, l2, d, us1, us2, oneL p1 asks, oneL p2 asks, p1.n, p2.n, kvs, t, L, rfl, (e2.trans eB) _ _ h1, eB _ _ h2, r1.ex (e2.trans eB), r2.ex eB, thB, n11, n12, n21, n22, by unfold oneL; rw [List.length_map, List.length_range], by unfold oneL; rw [List.length_map, List.length_range], one_row ok1 al, one_row ok2 al, so, hC, fun c kvs2 t2 Hc cC thC so2 cl2 cn2 mo2 => ?_⟩
        have eC : Ex H2 Hc := fun x o hx => cC x o (fun z => by rw [z, nd] at hx; cases hx) (eB _ _ hx)
        have eHC := (e1.trans e2).trans eC
        cases c with
        | false =>
          walk_at "g"
          refine ite_t rfl ?_
          walk_at "g"
          refine r_nget (r_var rfl ?_)
          walk_at "g"
          refine ix_t (.inl (.inl (g1t eHC))) (show atI _ 3 = some (.int p1.now) from rfl) ?_
          walk_at "g"
          refine ix_t (.inl (.inl (g2t eHC))) (show atI _ 3 = some (.int p2.now) from rfl) ?_
          walk_at "g"
          refine tup_go (ks := [.int p1.now, .int p2.now]) (.cons (.int _) (.cons (.int _) .nil)) fun q4 Hd n4 eD a4 _ => ?_
          replace a4 : NAt Hd (.ref q4) (prK p1.now p2.now) := a4
          have thD := thC.kp (ex_txn eD) ((eD _ _ thC.d).trans thC.d.symm)
          refine ⟨d, _, rfl, ⟨kvs2, prK p1.now p2.now, q4, .inl thD.d, thD.ko, rfl, prK_depth _ _, a4, (thD.v _ _ ok1.w0 ok1.w1 ok2.w0 ok2.w1).symm⟩, ?_⟩
          walk_at "g"
          exact q t2 Hd (eHC.trans eD) so2 (cl2 rfl) fun k hk => mo k (mo2 k hk)
        | true =>
          walk_at "g"
          refine ite_f rfl ?_
          walk_at "g"
          have lt := cn2 rfl
          exact ⟨_, kvs2, t2, rfl, eC, thC, so2, fun k hk => mo k (mo2 k hk), by omega⟩
      · rintro σ' Hb ⟨y8, kvs, t, rfl, eB, thB, so, mo, cn⟩
        exfalso
        omega
end

end K12

set_option Elab.async false
set_option linter.all false
set_option maxRecDepth 100000
set_option maxHeartbeats 2000000
namespace K12
open PySem PySem.Spec PyProof.Rows L2 Evl AE
local macro_rules | `(tactic| walk_at "c") => `(tactic| first | exact ⟨by decide, by decide⟩ | exact .inr ⟨by decide, by decide⟩ | exact .inl ⟨by decide, by decide⟩ | exact ⟨by decide, by decide, by decide⟩ | (show (0 : Int) < _; decide))
local macro_rules | `(tactic| walk_at "s") => `(tactic| first
  | (with_reducible refine r_var rfl ?_) | (with_reducible refine r_c ?_) | (with_reducible refine r_op ?_) | (with_reducible refine r_un ?_) | (with_reducible refine r_I0 ?_) | (with_reducible refine r_U ?_)
  | (with_reducible refine r_eq rfl ?_) | (with_reducible refine r_ne rfl ?_) | (with_reducible refine r_chain ?_) | (with_reducible refine r_test ?_) | (with_reducible refine r_tB ?_)
  | (with_reducible refine r_bl ?_) | (with_reducible refine r_and ?_) | (with_reducible refine r_or ?_) | (with_reducible refine r_not ?_) | (with_reducible refine r_nil ?_) | (with_reducible refine r_cons ?_)
  | (with_reducible refine r_tupK ?_) | (with_reducible refine r_lstK ?_) | (with_reducible refine r_cb ?_) | (with_reducible refine r_revL ?_) | (with_reducible refine r_ost ?_) | (with_reducible refine r_mkO ?_) | (with_reducible refine r_makeK ?_) | (with_reducible refine r_make ?_) | (with_reducible refine r_setdN ?_) | (with_reducible refine r_nget2 ?_) | (with_reducible refine r_nnew ?_) | (with_reducible refine r_call ?_) | (with_reducible refine r_seq ?_) | (with_reducible refine r_set ?_)
  | (with_reducible refine r_drop ?_) | (with_reducible refine r_ret ?_) | (with_reducible refine r_next ?_) | (with_reducible refine r_if ?_) | (with_reducible refine r_sl ?_) | (with_reducible refine r_nop ?_) | (with_reducible refine r_prt ?_) | (with_reducible refine r_some ?_)
  | (with_reducible refine add_int ?_) | (with_reducible refine int_i ?_) | (with_reducible refine r_forR1 ?_) | (with_reducible refine r_forR2 ?_) | (with_reducible refine r_meth ?_) | (with_reducible refine r_makeS ?_) | (with_reducible refine r_opS ?_) | (with_reducible refine r_makeRS ?_) | (with_reducible refine r_methH ?_) | (with_reducible refine r_callS ?_) | (with_reducible refine r_forL ?_) | (with_reducible refine r_andV ?_) | (with_reducible refine r_orV ?_) | (with_reducible refine r_notV ?_) | (with_reducible refine r_ifE ?_) | (with_reducible refine r_lcL ?_) | (with_reducible refine r_fld ?_) | (with_reducible refine r_get ?_) | (with_reducible refine r_din ?_) | (with_reducible refine r_dget2 ?_) | ((with_reducible refine r_I ?_ ?_); (walk_at "c")))
local macro_rules | `(tactic| walk_at "g") => `(tactic| repeat walk_at "s")
section
theorem marks_in {n : Int} {ms : List Int} {a : Int} (a0 : 0 ≤ a) (a1 : a < n) : a ∈ marksF n ms ↔ a ∈ ms := by
  unfold marksF
  rw [List.mem_filter, decide_eq_true_iff]
  refine ⟨And.right, fun h => ⟨List.mem_map.mpr ⟨a.toNat, List.mem_range.mpr (by omega), Int.toNat_of_nonneg a0⟩, h⟩⟩
theorem row_in2 {p : PlainD} {asks : List Str} (ok : OkQ p) (sub : ∀ s ∈ p.ss, s.2.1 ∈ asks) {a : Int} (a0 : 0 ≤ a) (a1 : a < p.n) {q : PairL} : q ∈ rowAt (oneL p asks) a ↔ (a, q.1, q.2) ∈ p.ss := by
  have e : rowAt (oneL p asks) a = lpairs p asks a asks.length := by
    unfold rowAt oneL
    rw [List.getD_eq_getElem?_getD, List.getElem?_map, List.getElem?_range (by omega)]
    show lpairs p asks ((a.toNat : Nat) : Int) asks.length = _
    rw [Int.toNat_of_nonneg a0]
  rw [e]
  unfold lpairs
  rw [List.take_length, List.mem_flatMap]
  constructor
  · rintro ⟨x, hx, h⟩
    unfold lpInn at h
    obtain ⟨e, he, rfl⟩ := List.mem_map.mp h
    exact of_decide_eq_true (List.mem_filter.mp he).2
  · intro h
    have o := ok.so _ h
    refine ⟨q.1, sub _ h, ?_⟩
    unfold lpInn
    have q0 : 0 ≤ q.2 := o.e0
    have q1 : q.2 < p.n := o.e1
    refine List.mem_map.mpr ⟨q.2.toNat, List.mem_filter.mpr ⟨List.mem_range.mpr (by omega), ?_⟩, ?_⟩
    · rw [Int.toNat_of_nonneg q0]
      exact decide_eq_true h
    · rw [Int.toNat_of_nonneg q0]
theorem mem_pairsF {rows : List StepD} {a : Int} {s : StepD} : s ∈ pairsF rows (.inl a) ↔ s ∈ rows ∧ s.1 = a := by
  unfold pairsF
  rw [List.mem_filter, decide_eq_true_iff]
  exact and_congr_right fun _ => ⟨Sum.inl.inj, congrArg _⟩
theorem mem_endsR {rows : List StepD} {b : Int} {x : Str} {s : StepD} : s ∈ endsR rows b x ↔ s ∈ rows ∧ s.1 = b ∧ s.2.1 = x := by
  unfold endsR
  rw [List.mem_filter, decide_eq_true_iff]
  simp
theorem tk_base {m1 m2 : Mach} {a b : Int} (h : a ∈ m1.marks ∧ b ∉ m2.marks) : tkP m1 m2 (prK a b) = [[]] := by
  unfold prK tkP
  exact if_pos h
theorem tk_step {m1 m2 : Mach} {a b : Int} (h : ¬ (a ∈ m1.marks ∧ b ∉ m2.marks)) : tkP m1 m2 (prK a b) = (pairsF m1.rows (.inl a)).map fun s => (endsR m2.rows b s.2.1).map fun r => [prK s.2.2 r.2.2] := by
  unfold prK tkP
  exact if_neg h
/-- two patterns as they are made -/
structure Two (p1 p2 : PlainD) (m1 m2 : Mach) (asks : List Str) : Prop where
  o1 : OkQ p1
  o2 : OkQ p2
  s1 : ∀ s ∈ p1.ss, s.2.1 ∈ asks
  s2 : ∀ s ∈ p2.ss, s.2.1 ∈ asks
  d1 : Made p1.n p1.ms p1.ss p1.now m1
  d2 : Made p2.n p2.ms p2.ss p2.now m2
  al : asks.length ≤ 4
  ak : ∀ x ∈ asks, AskOk x
theorem Two.base {p1 p2 : PlainD} {m1 m2 : Mach} {asks : List Str} (h : Two p1 p2 m1 m2 asks) (a b : Int) (a0 : 0 ≤ a) (a1 : a < p1.n) (b0 : 0 ≤ b) (b1 : b < p2.n) (ha : a ∈ p1.ms) (hb : b ∉ p2.ms) : Lose (tkP m1 m2) (prK a b) := by
  have e := tk_base (m1 := m1) (m2 := m2) (a := a) (b := b) ⟨by rw [h.d1.marks]; exact (marks_in a0 a1).mpr ha, by rw [h.d2.marks]; exact fun z => hb ((marks_in b0 b1).mp z)⟩
  exact Lose.of (t := []) (by rw [e]; exact List.mem_singleton_self _) fun o ho => nomatch ho
theorem Two.step {p1 p2 : PlainD} {m1 m2 : Mach} {asks : List Str} (h : Two p1 p2 m1 m2 asks) (a b : Int) (a0 : 0 ≤ a) (a1 : a < p1.n) (b0 : 0 ≤ b) (b1 : b < p2.n) (p : PairL) (hp : p ∈ rowAt (oneL p1 asks) a) (hr : ∀ r ∈ rowAt (oneL p2 asks) b, r.1 = p.1 → Lose (tkP m1 m2) (prK p.2 r.2)) : Lose (tkP m1 m2) (prK a b) := by
  by_cases z : a ∈ m1.marks ∧ b ∉ m2.marks
  · refine h.base a b a0 a1 b0 b1 ((marks_in a0 a1).mp (by rw [← h.d1.marks]; exact z.1)) fun y => z.2 ?_
    rw [h.d2.marks]
    exact (marks_in b0 b1).mpr y
  · have hs := (row_in2 h.o1 h.s1 a0 a1).mp hp
    have hm : ((a, p.1, p.2) : StepD) ∈ pairsF m1.rows (.inl a) := mem_pairsF.mpr ⟨(h.d1.mem _).mpr hs, rfl⟩
    refine Lose.of (t := (endsR m2.rows b p.1).map fun r => [prK p.2 r.2.2]) (by rw [tk_step z]; exact List.mem_map.mpr ⟨_, hm, rfl⟩) fun o ho => ?_
    obtain ⟨r, hr', rfl⟩ := List.mem_map.mp ho
    obtain ⟨r1, r2, r3⟩ := mem_endsR.mp hr'
    refine ⟨_, List.mem_singleton_self _, hr (r.2.1, r.2.2) ((row_in2 h.o2 h.s2 b0 b1).mpr ?_) r3⟩
    rw [← r2]
    exact (h.d2.mem _).mp r1
theorem Two.keep {p1 p2 : PlainD} {m1 m2 : Mach} {asks : List Str} {t : NK → Bool} (h : Two p1 p2 m1 m2 asks) (cl : closedT p1.n p2.n (oneL p1 asks) (oneL p2 asks) t) (st : ∀ k, t k = true → startT p1 p2 k = true) {k : NK} (l : Lose (tkP m1 m2) k) : ∀ a b : Int, 0 ≤ a → a < p1.n → 0 ≤ b → b < p2.n → k = prK a b → t k = false := by
  induction l with
  | mk k tsk f ht hf hl ih =>
    rintro a b a0 a1 b0 b1 rfl
    cases tk : t (prK a b) with
    | false => rfl
    | true =>
      exfalso
      have s0 : (!decide (a ∈ p1.ms) || decide (b ∈ p2.ms)) = true := st _ tk
      have z : ¬ (a ∈ m1.marks ∧ b ∉ m2.marks) := by
        rintro ⟨z1, z2⟩
        rw [h.d1.marks, marks_in a0 a1] at z1
        rw [h.d2.marks, marks_in b0 b1] at z2
        rw [decide_eq_true z1, decide_eq_false z2] at s0
        cases s0
      rw [tk_step z] at ht
      obtain ⟨s, hs, rfl⟩ := List.mem_map.mp ht
      obtain ⟨hs1, rfl⟩ := mem_pairsF.mp hs
      have hs2 := (h.d1.mem _).mp hs1
      have os := h.o1.so _ hs2
      obtain ⟨r, hr, r1, r2⟩ := cl s.1 b a0 a1 b0 b1 tk s.2 ((row_in2 h.o1 h.s1 a0 a1).mpr hs2)
      have hr2 := (row_in2 h.o2 h.s2 b0 b1).mp hr
      have orr := h.o2.so _ hr2
      have ho : [prK s.2.2 r.2] ∈ (endsR m2.rows b s.2.1).map fun r => [prK s.2.2 r.2.2] := List.mem_map.mpr ⟨(b, r.1, r.2), mem_endsR.mpr ⟨(h.d2.mem _).mpr hr2, rfl, r1⟩, rfl⟩
      have e := List.mem_singleton.mp (hf _ ho)
      have := ih _ ho s.2.2 r.2 os.e0 os.e1 orr.e0 orr.e1 e
      rw [e, r2] at this
      cases this
theorem Two.iff {p1 p2 : PlainD} {m1 m2 : Mach} {asks : List Str} {t : NK → Bool} (h : Two p1 p2 m1 m2 asks) (so : soundT p1.n p2.n (Lose (tkP m1 m2)) t) (cl : closedT p1.n p2.n (oneL p1 asks) (oneL p2 asks) t) (st : ∀ k, t k = true → startT p1 p2 k = true) :
    t (prK p1.now p2.now) = true ↔ ¬ Lose (tkP m1 m2) (.tup [.int m1.now, .int m2.now]) := by
  rw [show NK.tup [.int m1.now, .int m2.now] = prK p1.now p2.now by rw [h.d1.now, h.d2.now]; rfl]
  constructor
  · intro a l
    rw [h.keep cl st l _ _ h.o1.w0 h.o1.w1 h.o2.w0 h.o2.w1 rfl] at a
    cases a
  · intro n
    cases e : t (prK p1.now p2.now) with
    | true => rfl
    | false => exact absurd (so _ _ h.o1.w0 h.o1.w1 h.o2.w0 h.o2.w1 e) n
/-! ### few places, few tasks -/
theorem rows_nd {rows : List StepD} (up : rows.Pairwise ltS) : (rows.map stepN).Nodup := by
  rw [List.nodup_iff_pairwise_ne, List.pairwise_map]
  exact up.imp fun {a b} (l : ltS a b) (e : stepN a = stepN b) => by
    have := stepN_inj e
    subst this
    exact ltS_irrefl _ l
theorem sub_len {rows : List StepD} (up : rows.Pairwise ltS) (f : StepD → Bool) (l : List NK) (h : ∀ s ∈ rows, f s = true → stepN s ∈ l) : (rows.filter f).length ≤ l.length := by
  have nd : ((rows.filter f).map stepN).Nodup := rows_nd (up.filter f)
  have := nodupN_sub _ l nd fun x hx => by
    obtain ⟨s, hs, rfl⟩ := List.mem_map.mp hx
    obtain ⟨h1, h2⟩ := List.mem_filter.mp hs
    exact h s h1 h2
  rwa [List.length_map] at this
theorem ends_few {p : PlainD} {m : Mach} (ok : OkQ p) (d : Made p.n p.ms p.ss p.now m) (b : Int) (x : Str) : (endsR m.rows b x).length ≤ 5 := by
  have n5 := ok.n5
  refine Nat.le_trans (sub_len d.up _ ((List.range p.n.toNat).map fun (e : Nat) => stepN (b, x, (e : Int))) fun s hs hf => ?_) (by rw [List.length_map, List.length_range]; omega)
  have o := ok.so _ ((d.mem _).mp hs)
  have := of_decide_eq_true hf
  simp only [List.cons.injEq, Sum.inl.injEq, Sum.inr.injEq, and_true] at this
  obtain ⟨h1, h2⟩ := this
  refine List.mem_map.mpr ⟨s.2.2.toNat, List.mem_range.mpr (by have := o.e0; have := o.e1; omega), ?_⟩
  rw [Int.toNat_of_nonneg o.e0, ← h1, ← h2]
theorem pairs_few {p : PlainD} {m : Mach} {asks : List Str} (ok : OkQ p) (d : Made p.n p.ms p.ss p.now m) (sub : ∀ s ∈ p.ss, s.2.1 ∈ asks) (al : asks.length ≤ 4) (a : Int) : (pairsF m.rows (.inl a)).length ≤ 20 := by
  have n5 := ok.n5
  refine Nat.le_trans (sub_len d.up _ (asks.flatMap fun x => (List.range p.n.toNat).map fun (e : Nat) => stepN (a, x, (e : Int))) fun s hs hf => ?_) ?_
  · have hs2 := (d.mem _).mp hs
    have o := ok.so _ hs2
    have h1 : s.1 = a := Sum.inl.inj (of_decide_eq_true hf)
    refine List.mem_flatMap.mpr ⟨s.2.1, sub _ hs2, List.mem_map.mpr ⟨s.2.2.toNat, List.mem_range.mpr (by have := o.e0; have := o.e1; omega), ?_⟩⟩
    rw [Int.toNat_of_nonneg o.e0, ← h1]
  · rw [List.length_flatMap]
    simp only [List.length_map, List.length_range]
    rw [sum_const]
    have := Nat.mul_le_mul al (show p.n.toNat ≤ 5 by omega)
    omega
theorem flat_le {α β : Type} {f : α → List β} {c : Nat} : ∀ {l : List α}, (∀ x ∈ l, (f x).length ≤ c) → (l.flatMap f).length ≤ l.length * c
  | [], _ => Nat.zero_le _
  | x :: l, h => by
    have ih := flat_le (l := l) fun y hy => h y (List.mem_cons_of_mem _ hy)
    have := h x (List.mem_cons_self ..)
    rw [List.flatMap_cons, List.length_append, List.length_cons, Nat.add_mul, Nat.one_mul]
    omega
theorem Two.few {p1 p2 : PlainD} {m1 m2 : Mach} {asks : List Str} (h : Two p1 p2 m1 m2 asks) : DuelF (tkP m1 m2) (gridK p1.n p2.n) 100 := by
  have n1 := h.o1.n5
  have n2 := h.o2.n5
  have gl : (gridK p1.n p2.n).length ≤ 25 := by
    rw [grid_len]
    have := Nat.mul_le_mul (show p1.n.toNat ≤ 5 by omega) (show p2.n.toNat ≤ 5 by omega)
    omega
  have pf := fun a => pairs_few h.o1 h.d1 h.s1 h.al a
  have ef := fun b x => ends_few h.o2 h.d2 b x
  have tl : ∀ k ∈ gridK p1.n p2.n, (tkP m1 m2 k).length ≤ 20 ∧ ∀ t ∈ tkP m1 m2 k, t.length ≤ 5 ∧ ∀ o ∈ t, o.length ≤ 1 := fun k hk => by
    obtain ⟨a, b, ⟨a0, a1⟩, ⟨b0, b1⟩, rfl⟩ := mem_grid.mp hk
    by_cases z : a ∈ m1.marks ∧ b ∉ m2.marks
    · rw [tk_base z]
      exact ⟨by decide, fun t ht => by rw [List.mem_singleton.mp ht]; exact ⟨by decide, fun o ho => nomatch ho⟩⟩
    · rw [tk_step z]
      refine ⟨by rw [List.length_map]; exact pf a, fun t ht => ?_⟩
      obtain ⟨s, _, rfl⟩ := List.mem_map.mp ht
      refine ⟨by rw [List.length_map]; exact ef b s.2.1, fun o ho => ?_⟩
      obtain ⟨r, _, rfl⟩ := List.mem_map.mp ho
      exact Nat.le_refl _
  refine ⟨fun k hk x hx => ?_, fun k hk => ?_, by omega, fun k hk => ?_, fun k hk => ?_, by omega, 20, fun k hk => (tl k hk).1, by omega⟩
  · obtain ⟨a, b, ⟨a0, a1⟩, ⟨b0, b1⟩, rfl⟩ := mem_grid.mp hk
    obtain ⟨t, ht, o, ho, hxo⟩ := mem_afters.mp hx
    by_cases z : a ∈ m1.marks ∧ b ∉ m2.marks
    · rw [tk_base z] at ht
      rw [List.mem_singleton.mp ht] at ho
      cases ho
    · rw [tk_step z] at ht
      obtain ⟨s, hs, rfl⟩ := List.mem_map.mp ht
      obtain ⟨r, hr, rfl⟩ := List.mem_map.mp ho
      rw [List.mem_singleton.mp hxo]
      have o1 := h.o1.so _ ((h.d1.mem _).mp (mem_pairsF.mp hs).1)
      have o2 := h.o2.so _ ((h.d2.mem _).mp (mem_endsR.mp hr).1)
      exact mem_grid.mpr ⟨_, _, ⟨o1.e0, o1.e1⟩, ⟨o2.e0, o2.e1⟩, rfl⟩
  · obtain ⟨h1, h2⟩ := tl k hk
    unfold aftersF
    have := flat_le (l := tkP m1 m2 k) (f := fun t => t.flatMap fun o => o) (c := 5) fun t ht => by
      obtain ⟨h3, h4⟩ := h2 t ht
      have := flat_le (l := t) (f := fun o => o) (c := 1) h4
      omega
    omega
  · obtain ⟨a, b, _, _, rfl⟩ := mem_grid.mp hk
    exact ⟨Nat.le_of_ble_eq_true rfl, ⟨_, rfl⟩, rfl⟩
  · obtain ⟨h1, h2⟩ := tl k hk
    exact ⟨by omega, fun t ht => ⟨by have := (h2 t ht).1; omega, fun o ho => by have := (h2 t ht).2 o ho; omega⟩⟩
theorem Two.pl {p1 p2 : PlainD} : ∀ k ∈ gridK p1.n p2.n, ∃ a b : Int, k = .tup [.int a, .int b] := fun k hk => by
  obtain ⟨a, b, _, _, rfl⟩ := mem_grid.mp hk
  exact ⟨a, b, rfl⟩
theorem Two.at_ {p1 p2 : PlainD} {m1 m2 : Mach} {asks : List Str} (h : Two p1 p2 m1 m2 asks) : NK.tup [.int m1.now, .int m2.now] ∈ gridK p1.n p2.n := by
  rw [h.d1.now, h.d2.now]
  exact mem_grid.mpr ⟨_, _, ⟨h.o1.w0, h.o1.w1⟩, ⟨h.o2.w0, h.o2.w1⟩, rfl⟩
/-- a pattern follows itself -/
theorem Two.self {m : Mach} {k : NK} (l : Lose (tkP m m) k) : ∀ a : Int, k ≠ prK a a := by
  induction l with
  | mk k tsk f ht hf hl ih =>
    rintro a rfl
    have z : ¬ (a ∈ m.marks ∧ a ∉ m.marks) := fun z => z.2 z.1
    rw [tk_step z] at ht
    obtain ⟨s, hs, rfl⟩ := List.mem_map.mp ht
    obtain ⟨h1, h2⟩ := mem_pairsF.mp hs
    have ho : [prK s.2.2 s.2.2] ∈ (endsR m.rows a s.2.1).map fun r => [prK s.2.2 r.2.2] := List.mem_map.mpr ⟨s, mem_endsR.mpr ⟨h1, h2, rfl⟩, rfl⟩
    exact ih _ ho s.2.2 (List.mem_singleton.mp (hf _ ho))
end

end K12

set_option Elab.async false
set_option linter.all false
set_option maxRecDepth 100000
set_option maxHeartbeats 2000000
namespace K12
open PySem PySem.Spec PyProof.Rows L2 Evl AE
local macro_rules | `(tactic| walk_at "c") => `(tactic| first | exact ⟨by decide, by decide⟩ | exact .inr ⟨by decide, by decide⟩ | exact .inl ⟨by decide, by decide⟩ | exact ⟨by decide, by decide, by decide⟩ | (show (0 : Int) < _; decide))
local macro_rules | `(tactic| walk_at "s") => `(tactic| first
  | (with_reducible refine r_var rfl ?_) | (with_reducible refine r_c ?_) | (with_reducible refine r_op ?_) | (with_reducible refine r_un ?_) | (with_reducible refine r_I0 ?_) | (with_reducible refine r_U ?_)
  | (with_reducible refine r_eq rfl ?_) | (with_reducible refine r_ne rfl ?_) | (with_reducible refine r_chain ?_) | (with_reducible refine r_test ?_) | (with_reducible refine r_tB ?_)
  | (with_reducible refine r_bl ?_) | (with_reducible refine r_and ?_) | (with_reducible refine r_or ?_) | (with_reducible refine r_not ?_) | (with_reducible refine r_nil ?_) | (with_reducible refine r_cons ?_)
  | (with_reducible refine r_tupK ?_) | (with_reducible refine r_lstK ?_) | (with_reducible refine r_cb ?_) | (with_reducible refine r_revL ?_) | (with_reducible refine r_ost ?_) | (with_reducible refine r_mkO ?_) | (with_reducible refine r_makeK ?_) | (with_reducible refine r_make ?_) | (with_reducible refine r_setdN ?_) | (with_reducible refine r_nget2 ?_) | (with_reducible refine r_nnew ?_) | (with_reducible refine r_call ?_) | (with_reducible refine r_seq ?_) | (with_reducible refine r_set ?_)
  | (with_reducible refine r_drop ?_) | (with_reducible refine r_ret ?_) | (with_reducible refine r_next ?_) | (with_reducible refine r_if ?_) | (with_reducible refine r_sl ?_) | (with_reducible refine r_nop ?_) | (with_reducible refine r_prt ?_) | (with_reducible refine r_some ?_)
  | (with_reducible refine add_int ?_) | (with_reducible refine int_i ?_) | (with_reducible refine r_forR1 ?_) | (with_reducible refine r_forR2 ?_) | (with_reducible refine r_meth ?_) | (with_reducible refine r_makeS ?_) | (with_reducible refine r_opS ?_) | (with_reducible refine r_makeRS ?_) | (with_reducible refine r_methH ?_) | (with_reducible refine r_callS ?_) | (with_reducible refine r_forL ?_) | (with_reducible refine r_andV ?_) | (with_reducible refine r_orV ?_) | (with_reducible refine r_notV ?_) | (with_reducible refine r_ifE ?_) | (with_reducible refine r_lcL ?_) | (with_reducible refine r_fld ?_) | (with_reducible refine r_get ?_) | (with_reducible refine r_din ?_) | (with_reducible refine r_dget2 ?_) | ((with_reducible refine r_I ?_ ?_); (walk_at "c")))
local macro_rules | `(tactic| walk_at "g") => `(tactic| repeat walk_at "s")
section
variable {P : Program} {w : World} {K : PySem.W.Frag} {mg : Str → Option Value} {base : Heap}
theorem getD_lt {α : Type} {R : α → α → Prop} {l : List α} {z : α} (h : l.Pairwise R) {i j : Nat} (hij : i < j) (hj : j < l.length) : R (l.getD i z) (l.getD j z) := by
  rw [List.getD_eq_getElem?_getD, List.getD_eq_getElem?_getD, List.getElem?_eq_getElem hj, List.getElem?_eq_getElem (by omega)]
  exact List.pairwise_iff_getElem.mp h i j (by omega) hj hij
theorem getD_mem {α : Type} {l : List α} {z : α} {i : Nat} (hi : i < l.length) : l.getD i z ∈ l := by
  rw [List.getD_eq_getElem?_getD, List.getElem?_eq_getElem hi]
  exact List.getElem_mem hi
def AskLt (a b : Str) : Prop := a.cps.toList < b.cps.toList
theorem letC_inj {k i j : Nat} {r : Int} (hk : k < 6) (hi : i < 6) (hj : j < 6) (h : letC (r + ((k : Int) * 2 + 1) * i) = letC (r + ((k : Int) * 2 + 1) * j)) : i = j := by
  unfold letC at h
  have e : (r + ((k : Int) * 2 + 1) * i) % 26 = (r + ((k : Int) * 2 + 1) * j) % 26 := by omega
  clear h
  have ki : k = 0 ∨ k = 1 ∨ k = 2 ∨ k = 3 ∨ k = 4 ∨ k = 5 := by omega
  rcases ki with rfl | rfl | rfl | rfl | rfl | rfl <;> omega
theorem askL_inj {row : List Int} (hl : 13 ≤ row.length) (hb : ∀ x ∈ row, 0 ≤ x ∧ x < 64) {i j : Nat} (hi : i < 6) (hj : j < 6) (h : askL row i = askL row j) : i = j := by
  have wl := word_len hl
  unfold askL at h
  by_cases z : row.getD 8 0 % 2 = 0
  · rw [if_pos z, if_pos z] at h
    have e := congrArg List.length h
    rw [List.length_take, List.length_take] at e
    omega
  · rw [if_neg z, if_neg z] at h
    have p0 : 0 ≤ row.getD 10 0 % (row.getD 9 0 % 8 + 1) := by
      have : row.getD 9 0 % 8 + 1 ≠ 0 := by omega
      exact Int.emod_nonneg _ this
    have p1 : row.getD 10 0 % (row.getD 9 0 % 8 + 1) < row.getD 9 0 % 8 + 1 := Int.emod_lt_of_pos _ (by omega)
    generalize row.getD 10 0 % (row.getD 9 0 % 8 + 1) = p at p0 p1 h
    rw [List.append_assoc, List.append_assoc] at h
    have e := (List.cons.inj (List.append_cancel_left h)).1
    refine letC_inj (k := (row.getD 12 0 % 6).toNat) (r := row.getD 11 0) (by omega) hi hj ?_
    rw [show (((row.getD 12 0 % 6).toNat : Nat) : Int) = row.getD 12 0 % 6 by omega]
    exact e
theorem asks_nodup {row : List Int} (hl : 13 ≤ row.length) (hb : ∀ x ∈ row, 0 ≤ x ∧ x < 64) {many : Nat} (hm : many ≤ 6) : (asksF row many).Pairwise (· ≠ ·) := by
  unfold asksF
  rw [List.pairwise_map]
  refine (range_up _).imp_of_mem fun {a b} ha hb2 hab e => ?_
  have e1 : askL row a = askL row b := by
    have e2 := congrArg (fun (z : Str) => z.cps.toList) e
    simpa using e2
  have := askL_inj hl hb (by have := List.mem_range.mp ha; omega) (by have := List.mem_range.mp hb2; omega) e1
  omega
theorem sorted_up {xs ys : List Str} (hp : ys.Perm xs) (hs : sortedS ys = true) (nd : xs.Pairwise (· ≠ ·)) : ys.Pairwise AskLt := by
  have pw := sorted_pw hs
  have nd2 : ys.Pairwise (· ≠ ·) := (hp.pairwise_iff (fun h => Ne.symm h)).mpr nd
  refine List.Pairwise.imp₂ (fun a b h1 h2 => ?_) pw nd2
  by_cases h3 : a.cps.toList < b.cps.toList
  · exact h3
  · exact absurd (Str.ext' (Array.toList_inj.mp (List.le_antisymm (List.not_lt.mp h1) (List.not_lt.mp h3)))) h2
theorem ints_eq : ∀ {xs ys : List Int}, xs.Pairwise (· < ·) → ys.Pairwise (· < ·) → (∀ s, s ∈ xs ↔ s ∈ ys) → xs = ys
  | [], [], _, _, _ => rfl
  | [], y :: ys, _, _, h => absurd ((h y).mpr (List.mem_cons_self ..)) (by simp)
  | x :: xs, [], _, _, h => absurd ((h x).mp (List.mem_cons_self ..)) (by simp)
  | x :: xs, y :: ys, hx, hy, h => by
    rw [List.pairwise_cons] at hx hy
    have e : x = y := by
      rcases List.mem_cons.mp ((h x).mp (List.mem_cons_self ..)) with e | m
      · exact e
      · rcases List.mem_cons.mp ((h y).mpr (List.mem_cons_self ..)) with e | m2
        · exact e.symm
        · have a := hy.1 x m
          have b := hx.1 y m2
          omega
    subst e
    have t : xs = ys := ints_eq hx.2 hy.2 fun s => by
      constructor
      · intro m
        rcases List.mem_cons.mp ((h s).mp (List.mem_cons_of_mem _ m)) with e | m2
        · have := hx.1 s m
          omega
        · exact m2
      · intro m
        rcases List.mem_cons.mp ((h s).mpr (List.mem_cons_of_mem _ m)) with e | m2
        · have := hy.1 s m
          omega
        · exact m2
    rw [t]

theorem lmarks_idem (d n : Int) : marksF n (lmarksF d n) = lmarksF d n := by
  unfold marksF
  refine ints_eq (List.Pairwise.filter _ ?_) ?_ fun s => ?_
  · rw [List.pairwise_map]
    exact (range_up _).imp fun {a b} h => by omega
  · unfold lmarksF
    rw [List.pairwise_map]
    exact ((range_up _).filter _).imp fun {a b} h => by omega
  · rw [List.mem_filter, decide_eq_true_iff, List.mem_map]
    constructor
    · exact fun q => q.2
    · intro q
      have := lmarks_ok s q
      exact ⟨⟨s.toNat, List.mem_range.mpr (by omega), by omega⟩, q⟩
end

end K12

set_option Elab.async false
set_option linter.all false
set_option maxRecDepth 100000
set_option maxHeartbeats 2000000
namespace K12
open PySem PySem.Spec PyProof.Rows L2 Evl AE
local macro_rules | `(tactic| walk_at "c") => `(tactic| first | exact ⟨by decide, by decide⟩ | exact .inr ⟨by decide, by decide⟩ | exact .inl ⟨by decide, by decide⟩ | exact ⟨by decide, by decide, by decide⟩ | (show (0 : Int) < _; decide))
local macro_rules | `(tactic| walk_at "s") => `(tactic| first
  | (with_reducible refine r_var rfl ?_) | (with_reducible refine r_c ?_) | (with_reducible refine r_op ?_) | (with_reducible refine r_un ?_) | (with_reducible refine r_I0 ?_) | (with_reducible refine r_U ?_)
  | (with_reducible refine r_eq rfl ?_) | (with_reducible refine r_ne rfl ?_) | (with_reducible refine r_chain ?_) | (with_reducible refine r_test ?_) | (with_reducible refine r_tB ?_)
  | (with_reducible refine r_bl ?_) | (with_reducible refine r_and ?_) | (with_reducible refine r_or ?_) | (with_reducible refine r_not ?_) | (with_reducible refine r_nil ?_) | (with_reducible refine r_cons ?_)
  | (with_reducible refine r_tupK ?_) | (with_reducible refine r_lstK ?_) | (with_reducible refine r_cb ?_) | (with_reducible refine r_revL ?_) | (with_reducible refine r_ost ?_) | (with_reducible refine r_mkO ?_) | (with_reducible refine r_makeK ?_) | (with_reducible refine r_make ?_) | (with_reducible refine r_setdN ?_) | (with_reducible refine r_nget2 ?_) | (with_reducible refine r_nnew ?_) | (with_reducible refine r_call ?_) | (with_reducible refine r_seq ?_) | (with_reducible refine r_set ?_)
  | (with_reducible refine r_drop ?_) | (with_reducible refine r_ret ?_) | (with_reducible refine r_next ?_) | (with_reducible refine r_if ?_) | (with_reducible refine r_sl ?_) | (with_reducible refine r_nop ?_) | (with_reducible refine r_prt ?_) | (with_reducible refine r_some ?_)
  | (with_reducible refine add_int ?_) | (with_reducible refine int_i ?_) | (with_reducible refine r_forR1 ?_) | (with_reducible refine r_forR2 ?_) | (with_reducible refine r_meth ?_) | (with_reducible refine r_makeS ?_) | (with_reducible refine r_opS ?_) | (with_reducible refine r_makeRS ?_) | (with_reducible refine r_methH ?_) | (with_reducible refine r_callS ?_) | (with_reducible refine r_forL ?_) | (with_reducible refine r_andV ?_) | (with_reducible refine r_orV ?_) | (with_reducible refine r_notV ?_) | (with_reducible refine r_ifE ?_) | (with_reducible refine r_lcL ?_) | (with_reducible refine r_fld ?_) | (with_reducible refine r_get ?_) | (with_reducible refine r_din ?_) | (with_reducible refine r_dget2 ?_) | ((with_reducible refine r_I ?_ ?_); (walk_at "c")))
local macro_rules | `(tactic| walk_at "g") => `(tactic| repeat walk_at "s")
section
theorem gInn_mem {asks : List Str} {hit : Nat → Nat → Nat → Bool} {i j k : Nat} {s : StepD} (h : s ∈ gInn asks hit i j k) : s.1 = i ∧ s.2.1 = asks.getD j Str.empty ∧ 0 ≤ s.2.2 ∧ s.2.2 < k := by
  unfold gInn at h
  obtain ⟨e, he, rfl⟩ := List.mem_map.mp h
  have h2 := List.mem_range.mp (List.mem_filter.mp he).1
  exact ⟨rfl, rfl, by show 0 ≤ ((e : Nat) : Int); omega, by show ((e : Nat) : Int) < k; omega⟩
theorem gInn_up (asks : List Str) (hit : Nat → Nat → Nat → Bool) (i j k : Nat) : (gInn asks hit i j k).Pairwise ltS := by
  unfold gInn
  rw [List.pairwise_map]
  exact ((range_up _).filter _).imp fun {a b} h => .inr ⟨rfl, .inr ⟨rfl, by show (a : Int) < b; omega⟩⟩
theorem gMid_mem {asks : List Str} {hit : Nat → Nat → Nat → Bool} {n i j : Nat} {s : StepD} (h : s ∈ gMid asks hit n i j) : s.1 = i := by
  unfold gMid at h
  obtain ⟨t, _, h⟩ := List.mem_flatMap.mp h
  exact (gInn_mem h).1
theorem gMid_up {asks : List Str} {hit : Nat → Nat → Nat → Bool} {n i : Nat} (up : asks.Pairwise AskLt) : (gMid asks hit n i asks.length).Pairwise ltS := by
  unfold gMid
  rw [List.pairwise_flatMap]
  refine ⟨fun j _ => gInn_up _ _ _ _ _, (range_up _).imp_of_mem fun {a b} ha hb hab x hx y hy => ?_⟩
  obtain ⟨x1, x2, _⟩ := gInn_mem hx
  obtain ⟨y1, y2, _⟩ := gInn_mem hy
  refine .inr ⟨by rw [x1, y1], .inl ?_⟩
  rw [x2, y2]
  exact getD_lt up hab (List.mem_range.mp hb)
theorem grid_up {asks : List Str} {hit : Nat → Nat → Nat → Bool} {n : Nat} (up : asks.Pairwise AskLt) : (gridF asks hit n).Pairwise ltS := by
  unfold gridF gOut
  rw [List.pairwise_flatMap]
  refine ⟨fun j _ => gMid_up up, (range_up _).imp_of_mem fun {a b} ha hb hab x hx y hy => ?_⟩
  refine .inl ?_
  rw [gMid_mem hx, gMid_mem hy]
  omega
theorem grid_in {asks : List Str} {hit : Nat → Nat → Nat → Bool} {n : Nat} {s : StepD} (h : s ∈ gridF asks hit n) : 0 ≤ s.1 ∧ s.1 < n ∧ s.2.1 ∈ asks ∧ 0 ≤ s.2.2 ∧ s.2.2 < n := by
  unfold gridF gOut at h
  obtain ⟨i, hi, h⟩ := List.mem_flatMap.mp h
  unfold gMid at h
  obtain ⟨j, hj, h⟩ := List.mem_flatMap.mp h
  have hi' := List.mem_range.mp hi
  have hj' := List.mem_range.mp hj
  obtain ⟨z1, z2, z3, z4⟩ := gInn_mem h
  refine ⟨by omega, by omega, ?_, z3, z4⟩
  rw [z2, List.getD_eq_getElem?_getD, List.getElem?_eq_getElem hj']
  exact List.getElem_mem hj'
theorem gInn_len (asks : List Str) (hit : Nat → Nat → Nat → Bool) (i j k : Nat) : (gInn asks hit i j k).length ≤ k := by
  unfold gInn
  rw [List.length_map]
  exact Nat.le_trans (List.length_filter_le _ _) (by rw [List.length_range]; exact Nat.le_refl _)
theorem gMid_len (asks : List Str) (hit : Nat → Nat → Nat → Bool) (n i : Nat) : ∀ j, (gMid asks hit n i j).length ≤ j * n
  | 0 => by unfold gMid; simp
  | j + 1 => by
    rw [gMid_snoc, List.length_append, Nat.add_mul, Nat.one_mul]
    exact Nat.add_le_add (gMid_len asks hit n i j) (gInn_len _ _ _ _ _)
theorem gOut_len (asks : List Str) (hit : Nat → Nat → Nat → Bool) (n : Nat) : ∀ i, (gOut asks hit n i).length ≤ i * (asks.length * n)
  | 0 => by unfold gOut; simp
  | i + 1 => by
    rw [gOut_snoc, List.length_append, Nat.add_mul, Nat.one_mul]
    exact Nat.add_le_add (gOut_len asks hit n i) (gMid_len _ _ _ _ _)
theorem rand_ok {row : List Int} {asks : List Str} (ak : ∀ x ∈ asks, AskOk x) (al : asks.length ≤ 4) (up : asks.Pairwise AskLt) : OkP (randF row asks) := by
  have r0 := Int.emod_nonneg (row.getD 0 0) (show (4 : Int) ≠ 0 by decide)
  have r1 := Int.emod_lt_of_pos (row.getD 0 0) (show (0 : Int) < 4 by decide)
  unfold randF
  have n1 : 1 ≤ randN row := by unfold randN; omega
  have n4 : randN row ≤ 4 := by unfold randN; omega
  generalize randN row = n at n1 n4
  refine ⟨n1, n4, lmarks_ok, lmarks_len n4, lmarks_idem _ _, fun s hs => ?_, ?_, grid_up up, Int.emod_nonneg _ (by show n ≠ 0; omega), Int.emod_lt_of_pos _ (by omega)⟩
  · obtain ⟨a, b, c, d, e⟩ := grid_in hs
    obtain ⟨k1, k2, k3⟩ := ak _ c
    have hn : ((n.toNat : Nat) : Int) = n := by omega
    exact ⟨a, by show s.1 < n; omega, k1, k2, k3, d, by show s.2.2 < n; omega⟩
  · show (gridF asks (hitR row asks.length n) n.toNat).length ≤ 600
    have h := gOut_len asks (hitR row asks.length n) n.toNat n.toNat
    have h1 : asks.length * n.toNat ≤ 4 * 4 := Nat.mul_le_mul al (by omega)
    have h2 : n.toNat * (asks.length * n.toNat) ≤ 4 * (4 * 4) := Nat.mul_le_mul (by omega) h1
    unfold gridF
    omega
theorem rand_few {row : List Int} {asks : List Str} (al : asks.length ≤ 4) (x : Int) : (randF row asks).ss.countP (fun s => decide (s.1 = x)) ≤ 16 := by
  show (gridF asks (hitR row asks.length (randN row)) (randN row).toNat).countP (fun s => decide (s.1 = x)) ≤ 16
  have n4 : (randN row).toNat ≤ 4 := by unfold randN; omega
  generalize (randN row).toNat = n at n4
  generalize hitR row asks.length (randN row) = hit
  have le : ∀ i, (gOut asks hit n i).countP (fun s => decide (s.1 = x)) ≤ if x < i then 16 else 0 := fun i => by
    induction i with
    | zero => exact Nat.zero_le _
    | succ i ih =>
      rw [gOut_snoc, List.countP_append]
      by_cases z : (i : Int) = x
      · have ml := gMid_len asks hit n i asks.length
        have := Nat.mul_le_mul al n4
        have c := List.countP_le_length (l := gMid asks hit n i asks.length) (p := fun s => decide (s.1 = x))
        rw [if_neg (by omega)] at ih
        rw [if_pos (by omega)]
        omega
      · have c0 : (gMid asks hit n i asks.length).countP (fun s => decide (s.1 = x)) = 0 := List.countP_eq_zero.mpr fun s hs => by
          rw [gMid_mem hs]
          exact fun y => z (of_decide_eq_true y)
        rw [c0]
        split at ih
        · rw [if_pos (by omega)]
          exact ih
        · omega
  have := le n
  unfold gridF
  split at this <;> omega
end

end K12

set_option Elab.async false
set_option linter.all false
set_option maxRecDepth 100000
set_option maxHeartbeats 2000000
namespace K12
open PySem PySem.Spec PyProof.Rows L2 Evl AE
local macro_rules | `(tactic| walk_at "c") => `(tactic| first | exact ⟨by decide, by decide⟩ | exact .inr ⟨by decide, by decide⟩ | exact .inl ⟨by decide, by decide⟩ | exact ⟨by decide, by decide, by decide⟩ | (show (0 : Int) < _; decide))
local macro_rules | `(tactic| walk_at "s") => `(tactic| first
  | (with_reducible refine r_var rfl ?_) | (with_reducible refine r_c ?_) | (with_reducible refine r_op ?_) | (with_reducible refine r_un ?_) | (with_reducible refine r_I0 ?_) | (with_reducible refine r_U ?_)
  | (with_reducible refine r_eq rfl ?_) | (with_reducible refine r_ne rfl ?_) | (with_reducible refine r_chain ?_) | (with_reducible refine r_test ?_) | (with_reducible refine r_tB ?_)
  | (with_reducible refine r_bl ?_) | (with_reducible refine r_and ?_) | (with_reducible refine r_or ?_) | (with_reducible refine r_not ?_) | (with_reducible refine r_nil ?_) | (with_reducible refine r_cons ?_)
  | (with_reducible refine r_tupK ?_) | (with_reducible refine r_lstK ?_) | (with_reducible refine r_cb ?_) | (with_reducible refine r_revL ?_) | (with_reducible refine r_ost ?_) | (with_reducible refine r_mkO ?_) | (with_reducible refine r_makeK ?_) | (with_reducible refine r_make ?_) | (with_reducible refine r_setdN ?_) | (with_reducible refine r_nget2 ?_) | (with_reducible refine r_nnew ?_) | (with_reducible refine r_call ?_) | (with_reducible refine r_seq ?_) | (with_reducible refine r_set ?_)
  | (with_reducible refine r_drop ?_) | (with_reducible refine r_ret ?_) | (with_reducible refine r_next ?_) | (with_reducible refine r_if ?_) | (with_reducible refine r_sl ?_) | (with_reducible refine r_nop ?_) | (with_reducible refine r_prt ?_) | (with_reducible refine r_some ?_)
  | (with_reducible refine add_int ?_) | (with_reducible refine int_i ?_) | (with_reducible refine r_forR1 ?_) | (with_reducible refine r_forR2 ?_) | (with_reducible refine r_meth ?_) | (with_reducible refine r_makeS ?_) | (with_reducible refine r_opS ?_) | (with_reducible refine r_makeRS ?_) | (with_reducible refine r_methH ?_) | (with_reducible refine r_callS ?_) | (with_reducible refine r_forL ?_) | (with_reducible refine r_andV ?_) | (with_reducible refine r_orV ?_) | (with_reducible refine r_notV ?_) | (with_reducible refine r_ifE ?_) | (with_reducible refine r_lcL ?_) | (with_reducible refine r_fld ?_) | (with_reducible refine r_get ?_) | (with_reducible refine r_din ?_) | (with_reducible refine r_dget2 ?_) | ((with_reducible refine r_I ?_ ?_); (walk_at "c")))
local macro_rules | `(tactic| walk_at "g") => `(tactic| repeat walk_at "s")
section
variable {P : Program} {w : World} {K : PySem.W.Frag} {mg : Str → Option Value} {base : Heap}
def ofF (row : List Int) (n : Int) (k : Nat) : Int := row.getD (1 + k) 0 % n
def ofV (row : List Int) (n : Int) : V → V
  | .int k => .int (ofF row n k.toNat)
  | v => v
def mkB2 (row : List Int) (p : PlainD) (k : Nat) : Bool := decide (ofF row p.n k ∈ p.ms) && decide (0 < row.getD (6 + k) 0 % 4)
def mkV2 (row : List Int) (p : PlainD) : V → Bool
  | .int k => mkB2 row p k.toNat
  | _ => false
def sp_copied (K : PySem.W.Frag) : Sp := fun vs H Q _ => ∃ (r b ak am as_ : Addr) (row : List Int) (p : PlainD) (us : List V) (asks : List Str), vs = [.ref r, .ref b, .ref ak] ∧ SqL K H r (row.map V.int) ∧ row.length = 24 ∧ (∀ x ∈ row, 0 ≤ x ∧ x < 64) ∧ PlainAt H b p am as_ us ∧ OkP p ∧ SqL K H ak (asks.map V.str) ∧ asks.length ≤ 4 ∧ 1 ≤ asks.length ∧ (∀ x ∈ asks, AskOk x) ∧
  (∀ s ∈ p.ss, s.2.1 ∈ asks) ∧ (∀ x : Int, p.ss.countP (fun s => decide (s.1 = x)) ≤ 16) ∧
  ∀ c am' as' us' p' H', H c = none → Ex H H' → PlainAt H' c p' am' as' us' → OkQ p' → (∀ s ∈ p'.ss, s.2.1 ∈ asks) → Q (.ref c) H'
theorem ok_copied (T : Tp K mg) : FnOk P w K mg base CX0 1 T.a__law_copied T.d__law_copied ["_law_row", "_law_plain", "_law_asks_here"] (sp_copied K) := by
  refine T.f__law_copied.ok sc__law_copied (fun vs H Q E h => ?_) (fun cdv A outer s H vs Q E hr h => ?_)
  · obtain ⟨r, b, ak, am, as_, row, p, us, asks, rfl, _⟩ := h
    rfl
  · obtain ⟨r, b, ak, am, as_, row, p, us, asks, rfl, hS, hlen, hb, hP, ok, hA, al, al1, ao, sub, c16, q⟩ := h
    refine ⟨_, (pss_cons (ps_set (i := 3) sc__law_copied.nd rfl (.inl rfl) (pe_op opAdd pe_int (pe_op op_mod (pe_callTy c_int (by rfl) T.n_int (by rfl) (pa_cons (pe_ix ix_seq (pv 0) pe_int (fun _ _ => rfl)) pa_nil)) pe_int)))
  (pss_cons (ps_set (i := 4) sc__law_copied.nd rfl (.inr rfl) (pe_lc (own := [("_law_at", 5)]) (g := gName 5) (tt := tYes) rfl sc__law_copied.nd (pi_range1 rfl T.n_range (pa_cons (pv 3) pa_nil)) (blkOk_by (N := N__law_copied) (sc := defScope s__law_copied) (by decide +kernel)) (fun _ _ _ _ _ => (pg_name (i := 5) sc__law_copied.nd rfl (.inl rfl))) (fun _ _ _ _ _ => pts_nil) (fun _ _ _ _ _ => (pe_op op_mod (pe_callTy c_int (by rfl) T.n_int (by rfl) (pa_cons (pe_ix (ix_seqK (K := K)) (pv 0) (pe_op (opAddK (K := K)) pe_int (pv 5)) (fun _ _ => rfl)) pa_nil)) (pe_ix (ix_seqK (K := K)) (pv 1) pe_int (fun _ _ => rfl))))))
  (pss_cons (ps_setLc (i := 6) (own := [("_law_at", 5)]) (g := gName 5) rfl sc__law_copied.nd rfl rfl (sw_true rfl rfl rfl (by decide +kernel)) (pi_range1 rfl T.n_range (pa_cons (pv 3) pa_nil)) (blkOk_by (N := N__law_copied) (sc := defScope s__law_copied) (by decide +kernel)) (fun _ _ _ _ _ => (pg_name (i := 5) sc__law_copied.nd rfl (.inl rfl))) (fun _ _ _ _ _ => (pts_one (PW.pt (pw_and (pt_cmpR (op_in_seqK (K := K)) (pe_ix (ix_seqK (K := K)) (pv 4) (pv 5) (fun _ _ => rfl)) (pe_ix (ix_seqK (K := K)) (pv 1) pe_int (fun _ _ => rfl)) rfl) (pw_and1 (pt_cmpR op_gt (pe_op op_mod (pe_callTy c_int (by rfl) T.n_int (by rfl) (pa_cons (pe_ix (ix_seqK (K := K)) (pv 0) (pe_op (opAddK (K := K)) pe_int (pv 5)) (fun _ _ => rfl)) pa_nil)) pe_int) pe_int (nomark _))))))) (fun _ _ _ _ _ => (pv 5)))
  (pss_cons (ps_set (i := 7) sc__law_copied.nd rfl (.inl rfl) (pe_lst pa_nil))
  (pss_cons (ps_set (i := 8) sc__law_copied.nd rfl (.inl rfl) pe_int)
  (pss_cons (ps_for PassesOwn.never rfl (pi_range1 rfl T.n_range (pa_cons (pv 3) pa_nil)) (pg_name (i := 5) sc__law_copied.nd rfl (.inl rfl))
  (pss_one (ps_for PassesOwn.never rfl (pi_list (pe_ix ix_seq (pv 1) pe_int (fun _ _ => rfl))) (pg_tup (by rfl) (pgs_cons (pg_name (i := 9) sc__law_copied.nd rfl (.inl rfl)) (pgs_cons (pg_name (i := 10) sc__law_copied.nd rfl (.inl rfl)) (pgs_cons (pg_name (i := 11) sc__law_copied.nd rfl (.inl rfl)) pgs_nil))))
  (pss_one (ps_if (pt_cmpR op_eq (pv 9) (pe_ix ix_seq (pv 4) (pv 5) (fun _ _ => rfl)) (nomark _)) (pss_one (ps_for PassesOwn.never rfl (pi_range1 rfl T.n_range (pa_cons (pv 3) pa_nil)) (pg_name (i := 12) sc__law_copied.nd rfl (.inl rfl))
  (pss_cons (ps_set (i := 8) sc__law_copied.nd rfl (.inl rfl) (pe_op opAdd (pv 8) pe_int))
  (pss_one (ps_if (PW.pt (pw_and (pt_cmpR op_eq (pe_ix ix_seq (pv 4) (pv 12) (fun _ _ => rfl)) (pv 11) (nomark _)) (pw_and1 (pt_cmpR op_gt (pe_op op_mod (pe_callTy c_int (by rfl) T.n_int (by rfl) (pa_cons (pe_op opAdd (pe_ix ix_seq (pv 0) (pe_op op_mod (pe_callTy c_int (by rfl) T.n_int (by rfl) (pa_cons (pv 8) pa_nil)) pe_int) (fun _ _ => rfl)) (pv 8)) pa_nil)) pe_int) pe_int (nomark _))))) (pss_one (ps_expr (pe_bm PySem.F.plainAttrs_list PySem.F.slot_list_append PySem.F.type_list_append mt_append (pv 7) (pa_cons (pe_tup (pa_cons (pv 5) (pa_cons (pv 10) (pa_cons (pv 12) pa_nil)))) pa_nil)))) pss_nil))))) pss_nil)))))
  (pss_cons (ps_if (pt_cmpR op_eq (pe_op op_mod (pe_callTy c_int (by rfl) T.n_int (by rfl) (pa_cons (pe_ix ix_seq (pv 0) pe_int (fun _ _ => rfl)) pa_nil)) pe_int) pe_int (nomark _)) (pss_one (ps_expr (pe_bm PySem.F.plainAttrs_list PySem.F.slot_list_append PySem.F.type_list_append mt_append (pv 7) (pa_cons (pe_tup (pa_cons (pe_op op_mod (pe_callTy c_int (by rfl) T.n_int (by rfl) (pa_cons (pe_ix ix_seq (pv 0) pe_int (fun _ _ => rfl)) pa_nil)) (pv 3)) (pa_cons (pe_ix ix_seq (pv 2) (pe_op op_mod (pe_callTy c_int (by rfl) T.n_int (by rfl) (pa_cons (pe_ix ix_seq (pv 0) pe_int (fun _ _ => rfl)) pa_nil)) (pe_callB c_len (by rfl) T.n_len (by rfl) (pa_cons (pv 2) pa_nil))) (fun _ _ => rfl)) (pa_cons (pe_op op_mod (pe_callTy c_int (by rfl) T.n_int (by rfl) (pa_cons (pe_ix ix_seq (pv 0) pe_int (fun _ _ => rfl)) pa_nil)) (pv 3)) pa_nil)))) pa_nil)))) pss_nil)
  (pss_cons (ps_if (pt_cmpR op_eq (pe_op op_mod (pe_callTy c_int (by rfl) T.n_int (by rfl) (pa_cons (pe_ix ix_seq (pv 0) pe_int (fun _ _ => rfl)) pa_nil)) pe_int) pe_int (nomark _)) (pss_one (ps_expr (pe_bm PySem.F.plainAttrs_list PySem.F.slot_list_append PySem.F.type_list_append mt_append (pv 6) (pa_cons (pe_op op_mod (pe_callTy c_int (by rfl) T.n_int (by rfl) (pa_cons (pe_ix ix_seq (pv 0) pe_int (fun _ _ => rfl)) pa_nil)) (pv 3)) pa_nil)))) pss_nil)
  (pss_one (ps_ret (pe_tup (pa_cons (pv 3) (pa_cons (pv 6) (pa_cons (pv 7) (pa_cons (pe_op op_mod (pe_callTy c_int (by rfl) T.n_int (by rfl) (pa_cons (pe_ix ix_seq (pv 0) pe_int (fun _ _ => rfl)) pa_nil)) (pv 3)) pa_nil))))))))))))))), ?_⟩
    walk_at "g"
    refine ix_l hS (row_at (j := 0) (by omega)) ?_
    walk_at "g"
    have r0 := Int.emod_nonneg (row.getD 0 0) (show (5 : Int) ≠ 0 by decide)
    have r1 := Int.emod_lt_of_pos (row.getD 0 0) (show (0 : Int) < 5 by decide)
    generalize hz : row.getD 0 0 % 5 = zz at r0 r1
    have en : ∃ n, n = 1 + zz := ⟨_, rfl⟩
    obtain ⟨n, en⟩ := en
    rw [← en]
    have n1 : 1 ≤ n := by omega
    have n5 : n ≤ 5 := by omega
    have p1 := ok.n1
    have p4 := ok.n4
    have of_in : ∀ k, 0 ≤ ofF row p.n k ∧ ofF row p.n k < p.n := fun k => ⟨Int.emod_nonneg _ (by omega), Int.emod_lt_of_pos _ (by omega)⟩
    refine lc_r (n := n) (fun _ => true) (ofV row p.n) ?_ ⟨by omega, by omega⟩ (fun _ => rfl) ?_ ?_ ?_
    · intro R rr
      walk_at "g"
      exact rr
    · intro x hx H1 e1 R rr
      exact rr H1 (Ex.refl _)
    · intro x hx _ H1 e1 R rr
      unfold intsV at hx
      obtain ⟨k, hk, rfl⟩ := List.mem_map.mp hx
      have hk5 : k < 5 := by have := List.mem_range.mp hk; omega
      walk_at "g"
      rw [show (1 + (k : Int)) = ((1 + k : Nat) : Int) by omega]
      refine ix_l (ex_l e1 hS) (row_at (by omega)) ?_
      walk_at "g"
      refine ix_t (.inl (.inl (e1 _ _ hP.1))) (show atI _ 0 = some (.int p.n) from rfl) ?_
      refine r_I (show 0 < p.n by omega) ?_
      exact rr H1 (Ex.refl _)
    · intro D H1 nD e1 hD
      have ho : H1 D = some (.lst (((List.range n.toNat).map fun (k : Nat) => ofF row p.n k).map V.int)) := by
        rw [hD]
        unfold intsV
        rw [List.filter_eq_self.mpr (fun _ _ => rfl), List.map_map, List.map_map]
        rfl
      clear hD
      have ofs_at : ∀ k : Nat, k < n.toNat → atI (((List.range n.toNat).map fun (k : Nat) => ofF row p.n k).map V.int) (k : Int) = some (.int (ofF row p.n k)) := fun k hk => atI_nat (by
        rw [List.map_map, List.getElem?_map, List.getElem?_range hk]
        rfl)
      walk_at "g"
      refine lc_r (n := n) (mkV2 row p) (fun v => v) ?_ ⟨by omega, by omega⟩ (fun _ => rfl) ?_ ?_ ?_
      · intro R rr
        walk_at "g"
        exact rr
      · intro x hx H2 e2 R rr
        unfold intsV at hx
        obtain ⟨k, hk, rfl⟩ := List.mem_map.mp hx
        have hk5 : k < n.toNat := List.mem_range.mp hk
        have rr' : ∀ H3, Ex H2 H3 → R (mkB2 row p k) H3 := rr
        clear rr
        walk_at "g"
        refine ix_l (SqL.of (e2 _ _ ho)) (ofs_at k hk5) ?_
        walk_at "g"
        refine ix_t (.inl (.inl ((e1.trans e2) _ _ hP.1))) (show atI _ 1 = some (.ref am) from rfl) ?_
        refine ⟨am, p.ms.map V.int, rfl, .inl (SqL.of ((e1.trans e2) _ _ hP.2.1)), rfl, flat_ints _, ?_⟩
        rw [inV_int]
        refine ⟨_, rfl, ?_⟩
        by_cases z1 : ofF row p.n k ∈ p.ms
        · refine ite_t (show decide (ofF row p.n k ∈ p.ms) = true from decide_eq_true z1) ?_
          walk_at "g"
          rw [show (6 + (k : Int)) = ((6 + k : Nat) : Int) by omega]
          refine ix_l (ex_l (e1.trans e2) hS) (row_at (by omega)) ?_
          walk_at "g"
          have e : mkB2 row p k = decide (0 < row.getD (6 + k) 0 % 4) := by unfold mkB2; rw [decide_eq_true z1, Bool.true_and]
          rw [e] at rr'
          exact rr' H2 (Ex.refl _)
        · refine ite_f (show decide (ofF row p.n k ∈ p.ms) = false from decide_eq_false z1) ?_
          have e : mkB2 row p k = false := by unfold mkB2; rw [decide_eq_false z1]; rfl
          rw [e] at rr'
          exact rr' H2 (Ex.refl _)
      · intro x hx _ H2 e2 R rr
        walk_at "g"
        exact rr H2 (Ex.refl _)
      · intro M H2 nM e2 hM
        walk_at "g"
        refine lst_go fun S H3 nS e3 hSt => ?_
        walk_at "g"
        have hm : H2 M = some (.lst ((((List.range n.toNat).filter (mkB2 row p)).map fun (k : Nat) => (k : Int)).map V.int)) := by
          rw [hM]
          unfold intsV
          rw [List.filter_map, List.map_map, List.map_map]
          rfl
        clear hM
        have mr : ∀ x ∈ (((List.range n.toNat).filter (mkB2 row p)).map fun (k : Nat) => (k : Int)), 0 ≤ x ∧ x < n := fun x hx => by
          obtain ⟨k, hk, rfl⟩ := List.mem_map.mp hx
          have := List.mem_range.mp (List.mem_filter.mp hk).1
          omega
        have ml : (((List.range n.toNat).filter (mkB2 row p)).map fun (k : Nat) => (k : Int)).length ≤ 5 := by
          rw [List.length_map]
          refine Nat.le_trans (List.length_filter_le _ _) ?_
          rw [List.length_range]
          omega
        generalize (((List.range n.toNat).filter (mkB2 row p)).map fun (k : Nat) => (k : Int)) = mks at hm mr ml
        have e12 := e1.trans e2
        have nSH : H S = none := none_ex e12 nS
        obtain ⟨g1, g2, g3, g4⟩ := id hP
        have lus : us.length = p.ss.length := by rw [g4.len, List.length_map]
        refine lr1_go (fun i σ' Ha => ∃ y5 y9 y10 y11 y12 vs ss tn, σ' = [some (.ref r), some (.ref b), some (.ref ak), some (.int n), some (.ref D), y5, some (.ref M), some (.ref S), some (.int tn), y9, y10, y11, y12] ∧ Ex H2 Ha ∧ Ha S = some (.lst vs) ∧ Tups Ha vs (ss.map stepV) ∧ (∀ s ∈ ss, OkS n s ∧ s.2.1 ∈ asks) ∧ ss.length ≤ 80 * i ∧ 0 ≤ tn ∧ tn ≤ 80 * i)
          ⟨_, _, _, _, _, [], [], 0, rfl, e3, hSt, .nil, (fun _ z => nomatch z), Nat.le_refl _, Int.le_refl _, Int.le_refl _⟩ ⟨by omega, by omega⟩ ?_ ?_
        · rintro i σ' Ha hi ⟨y5, y9, y10, y11, y12, vs, ss, tn, rfl, eA, hSa, tA, sA, lA, t0, t1⟩
          have eHA := e12.trans eA
          walk_at "g"
          refine ix_t (.inl (.inl (eHA _ _ g1))) (show atI _ 2 = some (.ref as_) from rfl) ?_
          refine ll_go (SqL.of (eHA _ _ g3)) (fun j σ' Hb => ∃ y9 y10 y11 y12 vs ss tn, σ' = [some (.ref r), some (.ref b), some (.ref ak), some (.int n), some (.ref D), some (.int i), some (.ref M), some (.ref S), some (.int tn), y9, y10, y11, y12] ∧ Ex H2 Hb ∧ Hb S = some (.lst vs) ∧ Tups Hb vs (ss.map stepV) ∧ (∀ s ∈ ss, OkS n s ∧ s.2.1 ∈ asks) ∧ ss.length ≤ 80 * i + 5 * (p.ss.take j).countP (fun s => decide (s.1 = ofF row p.n i)) ∧ 0 ≤ tn ∧ tn ≤ 80 * i + 5 * ((p.ss.take j).countP (fun s => decide (s.1 = ofF row p.n i)) : Nat))
            ⟨_, _, _, _, vs, ss, tn, rfl, eA, hSa, tA, sA, by rw [List.take_zero]; exact lA, t0, by rw [List.take_zero]; exact t1⟩ (fun j σ' Hb _ z => by
              obtain ⟨_, _, _, _, _, _, _, _, c, _⟩ := z
              exact SqL.of ((e12.trans c) _ _ g3)) ?_ ?_
          · rintro j x σ' Hb hx ⟨y9, y10, y11, y12, vs, ss, tn, rfl, eB, hSb, tB, sB, lB, t2, t3⟩
            obtain ⟨z, hz, pz, rfl, hpz⟩ := (g4.tx (tx_ex (e12.trans eB))).get hx
            rw [List.getElem?_map] at hz
            obtain ⟨st, hst, rfl⟩ := Option.map_eq_some_iff.mp hz
            have hsm := List.mem_of_getElem? hst
            have stk : (p.ss.take (j + 1)).countP (fun s => decide (s.1 = ofF row p.n i)) = (p.ss.take j).countP (fun s => decide (s.1 = ofF row p.n i)) + if st.1 = ofF row p.n i then 1 else 0 := by
              rw [List.take_add_one, hst, List.countP_append]
              congr 1
              show List.countP _ [st] = _
              rw [List.countP_singleton]
              by_cases z : st.1 = ofF row p.n i
              · rw [if_pos z, if_pos (decide_eq_true z)]
              · rw [if_neg z, if_neg (by rw [decide_eq_false z]; decide)]
            have c16' : (p.ss.take j).countP (fun s => decide (s.1 = ofF row p.n i)) ≤ 16 := Nat.le_trans (List.Sublist.countP_le (List.take_sublist _ _)) (c16 _)
            rw [stk]
            generalize (p.ss.take j).countP (fun s => decide (s.1 = ofF row p.n i)) = cj at lB t3 c16'
            refine gtup3 (.inl (.inl hpz)) (gnames3 ?_)
            walk_at "g"
            refine ix_l (SqL.of ((e2.trans eB) _ _ ho)) (ofs_at i (by omega)) ?_
            walk_at "g"
            by_cases z1 : st.1 = ofF row p.n i
            · rw [if_pos z1]
              refine ite_t (decide_eq_true (congrArg V.int z1)) ?_
              walk_at "g"
              have os := ok.so st hsm
              refine lr1_go (fun e σ' Hc => ∃ y12 vs ss tn, σ' = [some (.ref r), some (.ref b), some (.ref ak), some (.int n), some (.ref D), some (.int i), some (.ref M), some (.ref S), some (.int tn), some (.int st.1), some (.str st.2.1), some (.int st.2.2), y12] ∧ Ex H2 Hc ∧ Hc S = some (.lst vs) ∧ Tups Hc vs (ss.map stepV) ∧ (∀ s ∈ ss, OkS n s ∧ s.2.1 ∈ asks) ∧ ss.length ≤ 80 * i + 5 * cj + e ∧ 0 ≤ tn ∧ tn ≤ 80 * i + 5 * cj + e)
                ⟨_, vs, ss, tn, rfl, eB, hSb, tB, sB, lB, t2, by omega⟩ ⟨by omega, by omega⟩ ?_ ?_
              · rintro e σ' Hc he ⟨y12, vs, ss, tn, rfl, eC, hSc, tC', sC, lC, t4, t5⟩
                have eHC := e12.trans eC
                have skip : ∃ (y12 : Option V) (vs' : List V) (ss' : List StepD) (tn' : Int), [some (V.ref r), some (.ref b), some (.ref ak), some (.int n), some (.ref D), some (.int i), some (.ref M), some (.ref S), some (.int (tn + 1)), some (.int st.1), some (.str st.2.1), some (.int st.2.2), some (.int e)] = [some (V.ref r), some (.ref b), some (.ref ak), some (.int n), some (.ref D), some (.int i), some (.ref M), some (.ref S), some (.int tn'), some (.int st.1), some (.str st.2.1), some (.int st.2.2), y12] ∧ Ex H2 Hc ∧ Hc S = some (.lst vs') ∧ Tups Hc vs' (ss'.map stepV) ∧ (∀ s ∈ ss', OkS n s ∧ s.2.1 ∈ asks) ∧ ss'.length ≤ 80 * i + 5 * cj + (e + 1) ∧ 0 ≤ tn' ∧ tn' ≤ 80 * i + 5 * cj + ((e + 1 : Nat) : Int) :=
                  ⟨_, vs, ss, tn + 1, rfl, eC, hSc, tC', sC, by omega, by omega, by omega⟩
                walk_at "g"
                refine ix_l (SqL.of ((e2.trans eC) _ _ ho)) (ofs_at e (by omega)) ?_
                walk_at "g"
                refine ite_b (fun hc => ?_) (fun hc => ?_)
                · walk_at "g"
                  rw [show (tn + 1) % 24 = ((((tn + 1) % 24).toNat : Nat) : Int) by omega]
                  refine ix_l (ex_l eHC hS) (row_at (by omega)) ?_
                  walk_at "g"
                  refine ite_b (fun hd => ?_) (fun hd => ?_)
                  · refine r_drop (r_app rfl hSc ?_)
                    walk_at "g"
                    refine tup_go' fun pt Hd npt eD hpt => ?_
                    have hSd := eD _ _ hSc
                    refine app_l hSd (sz_lt (by rw [tC'.len, List.length_map]; omega)) ?_
                    walk_at "g"
                    have tt : Tx Hc (upd Hd S (.lst (vs ++ [.ref pt]))) := (tx_ex eD).trans (tx_lst hSd)
                    have nptS : pt ≠ S := fun z => by rw [z, hSc] at npt; cases npt
                    refine ⟨_, vs ++ [.ref pt], ss ++ [((i : Int), st.2.1, (e : Int))], tn + 1, rfl, ex_upd (eC.trans eD) nS, upd_same, ?_, fun s hs => ?_, ?_, by omega, by omega⟩
                    · rw [List.map_append]
                      exact Tups.snoc ⟨pt, rfl, by rw [upd_ne nptS]; exact hpt⟩ (tC'.tx tt)
                    · rcases List.mem_append.mp hs with hs | hs
                      · exact sC s hs
                      · rw [List.mem_singleton.mp hs]
                        exact ⟨⟨by show (0 : Int) ≤ (i : Int); omega, by show (i : Int) < n; omega, os.a0, os.a1, os.al, by show (0 : Int) ≤ (e : Int); omega, by show (e : Int) < n; omega⟩, sub st hsm⟩
                    · rw [List.length_append]
                      show ss.length + 1 ≤ _
                      omega
                  · walk_at "g"
                    exact skip
                · refine ite_f rfl ?_
                  walk_at "g"
                  exact skip
              · rintro σ' Hc ⟨y12, vs, ss, tn, rfl, eC, hSc, tC', sC, lC, t4, t5⟩
                exact ⟨_, _, _, _, vs, ss, tn, rfl, eC, hSc, tC', sC, by omega, t4, by omega⟩
            · rw [if_neg z1]
              refine ite_f (decide_eq_false fun z => z1 (V.int.inj z)) ?_
              walk_at "g"
              exact ⟨_, _, _, _, vs, ss, tn, rfl, eB, hSb, tB, sB, lB, t2, t3⟩
          · rintro σ' Hb ⟨y9, y10, y11, y12, vs, ss, tn, rfl, eB, hSb, tB, sB, lB, t2, t3⟩
            have := c16 (ofF row p.n i)
            rw [lus, List.take_length] at lB t3
            exact ⟨_, _, _, _, _, vs, ss, tn, rfl, eB, hSb, tB, sB, by omega, t2, by omega⟩
        · rintro σ' Ha ⟨y5, y9, y10, y11, y12, vs, ss, tn, rfl, eA, hSa, tA, sA, lA, t0, t1⟩
          have hMa : Ha M = some (.lst (mks.map V.int)) := eA _ _ hm
          have nMH : H M = none := none_ex e1 nM
          have mr2 : ∀ x ∈ mks ++ [row.getD 13 0 % n], 0 ≤ x ∧ x < n := fun x hx => by
            rcases List.mem_append.mp hx with hx | hx
            · exact mr x hx
            · rw [List.mem_singleton.mp hx]
              exact ⟨Int.emod_nonneg _ (by omega), Int.emod_lt_of_pos _ (by omega)⟩
          have eHA := e12.trans eA
          walk_at "g"
          refine ix_l (ex_l eHA hS) (row_at (j := 12) (by omega)) ?_
          walk_at "g"
          refine ite_b (fun hc => ?_) (fun hc => ?_)
          · refine r_drop (r_app rfl hSa ?_)
            walk_at "g"
            refine ix_l (ex_l eHA hS) (row_at (j := 13) (by omega)) ?_
            walk_at "g"
            refine r_I (show 0 < n by omega) ?_
            walk_at "g"
            refine ix_l (ex_l eHA hS) (row_at (j := 14) (by omega)) ?_
            walk_at "g"
            refine len_l (ex_l eHA hA) ?_
            have lpos : (0 : Int) < ((asks.map V.str).length : Nat) := by rw [List.length_map]; omega
            refine r_I lpos ?_
            have i0 := Int.emod_nonneg (row.getD 14 0) (show (((asks.map V.str).length : Nat) : Int) ≠ 0 by omega)
            have i1 := Int.emod_lt_of_pos (row.getD 14 0) lpos
            generalize row.getD 14 0 % (((asks.map V.str).length : Nat) : Int) = ix at i0 i1
            rw [List.length_map] at i1
            obtain ⟨ix, rfl⟩ := Int.eq_ofNat_of_zero_le i0
            have ixl : ix < asks.length := by omega
            refine ix_l (ex_l eHA hA) (strs_at ixl) ?_
            walk_at "g"
            refine ix_l (ex_l eHA hS) (row_at (j := 15) (by omega)) ?_
            walk_at "g"
            refine r_I (show 0 < n by omega) ?_
            walk_at "g"
            refine tup_go' fun pt Hd npt eD hpt => ?_
            have hSd := eD _ _ hSa
            refine app_l hSd (sz_lt (by rw [tA.len, List.length_map]; omega)) ?_
            have am : asks.getD ix Str.empty ∈ asks := by rw [List.getD_eq_getElem?_getD, List.getElem?_eq_getElem ixl]; exact List.getElem_mem _
            have tt : Tx Ha (upd Hd S (.lst (vs ++ [.ref pt]))) := (tx_ex eD).trans (tx_lst hSd)
            have nptS : pt ≠ S := fun z => by rw [z, hSa] at npt; cases npt
            have nMS' : M ≠ S := fun z => by rw [← z, hm] at nS; cases nS
            have ey : Ex H (upd Hd S (.lst (vs ++ [.ref pt]))) := ex_upd (eHA.trans eD) nSH
            have hSy : (upd Hd S (.lst (vs ++ [.ref pt]))) S = some (.lst (vs ++ [.ref pt])) := upd_same
            have hMy : (upd Hd S (.lst (vs ++ [.ref pt]))) M = some (.lst (mks.map V.int)) := by rw [upd_ne nMS']; exact eD _ _ hMa
            have ty : Tups (upd Hd S (.lst (vs ++ [.ref pt]))) (vs ++ [.ref pt]) ((ss ++ [(row.getD 13 0 % n, asks.getD ix Str.empty, row.getD 15 0 % n)]).map stepV) := by
              rw [List.map_append]
              exact Tups.snoc ⟨pt, rfl, by rw [upd_ne nptS]; exact hpt⟩ (tA.tx tt)
            have sy : ∀ s ∈ ss ++ [(row.getD 13 0 % n, asks.getD ix Str.empty, row.getD 15 0 % n)], OkS n s ∧ s.2.1 ∈ asks := fun s hs => by
              rcases List.mem_append.mp hs with hs | hs
              · exact sA s hs
              · rw [List.mem_singleton.mp hs]
                obtain ⟨u1, u2, u3⟩ := ao _ am
                exact ⟨⟨Int.emod_nonneg _ (by omega), Int.emod_lt_of_pos _ (by omega), u1, u2, u3, Int.emod_nonneg _ (by omega), Int.emod_lt_of_pos _ (by omega)⟩, am⟩
            have ly : (ss ++ [(row.getD 13 0 % n, asks.getD ix Str.empty, row.getD 15 0 % n)]).length ≤ 600 := by
              rw [List.length_append]
              show ss.length + 1 ≤ 600
              omega
            generalize (upd Hd S (.lst (vs ++ [.ref pt]))) = Hy at ey hSy hMy ty
            generalize ss ++ [(row.getD 13 0 % n, asks.getD ix Str.empty, row.getD 15 0 % n)] = ssy at ty sy ly
            generalize vs ++ [V.ref pt] = vsy at hSy ty
            walk_at "g"
            refine ix_l (ex_l ey hS) (row_at (j := 12) (by omega)) ?_
            walk_at "g"
            refine ite_b (fun hc2 => ?_) (fun hc2 => ?_)
            · refine r_drop (r_app rfl hMy ?_)
              walk_at "g"
              refine ix_l (ex_l ey hS) (row_at (j := 13) (by omega)) ?_
              walk_at "g"
              refine r_I (show 0 < n by omega) ?_
              walk_at "g"
              refine app_l hMy (sz_lt (by rw [List.length_map]; omega)) ?_
              walk_at "g"
              have nMS : S ≠ M := fun z => by rw [z, hm] at nS; cases nS
              have txM : Tx Hy (upd Hy M (.lst (mks.map V.int ++ [V.int (row.getD 13 0 % n)]))) := tx_lst hMy
              have ez : Ex H (upd Hy M (.lst (mks.map V.int ++ [V.int (row.getD 13 0 % n)]))) := ex_upd ey nMH
              have hM2 : (upd Hy M (.lst (mks.map V.int ++ [V.int (row.getD 13 0 % n)]))) M = some (.lst ((mks ++ [row.getD 13 0 % n]).map V.int)) := by rw [List.map_append]; exact upd_same
              have hS2 : (upd Hy M (.lst (mks.map V.int ++ [V.int (row.getD 13 0 % n)]))) S = some (.lst vsy) := by rw [upd_ne nMS]; exact hSy
              have t2 := ty.tx txM
              generalize (upd Hy M (.lst (mks.map V.int ++ [V.int (row.getD 13 0 % n)]))) = Hz at ez hM2 hS2 t2
              refine ix_l (ex_l ez hS) (row_at (j := 16) (by omega)) ?_
              walk_at "g"
              refine r_I (show 0 < n by omega) ?_
              walk_at "g"
              refine tup_go' fun pf Hf npf eF hpf => ?_
              walk_at "g"
              exact q pf M S vsy ⟨n, row.getD 16 0 % n, (mks ++ [row.getD 13 0 % n]), ssy⟩ Hf (none_ex ez npf) (ez.trans eF) ⟨hpf, eF _ _ hM2, eF _ _ hS2, t2.tx (tx_ex eF)⟩ ⟨n1, n5, mr2, (by show (mks ++ [row.getD 13 0 % n]).length ≤ 10; rw [List.length_append]; show mks.length + 1 ≤ 10; omega), fun s hs => (sy s hs).1, ly, Int.emod_nonneg _ (by omega), Int.emod_lt_of_pos _ (by omega)⟩ fun s hs => (sy s hs).2
            · walk_at "g"
              refine ix_l (ex_l ey hS) (row_at (j := 16) (by omega)) ?_
              walk_at "g"
              refine r_I (show 0 < n by omega) ?_
              walk_at "g"
              refine tup_go' fun pf Hf npf eF hpf => ?_
              walk_at "g"
              exact q pf M S vsy ⟨n, row.getD 16 0 % n, mks, ssy⟩ Hf (none_ex ey npf) (ey.trans eF) ⟨hpf, eF _ _ hMy, eF _ _ hSy, ty.tx (tx_ex eF)⟩ ⟨n1, n5, mr, (by show mks.length ≤ 10; omega), fun s hs => (sy s hs).1, ly, Int.emod_nonneg _ (by omega), Int.emod_lt_of_pos _ (by omega)⟩ fun s hs => (sy s hs).2
          · have ly : ss.length ≤ 600 := by omega
            walk_at "g"
            refine ix_l (ex_l eHA hS) (row_at (j := 12) (by omega)) ?_
            walk_at "g"
            refine ite_b (fun hc2 => ?_) (fun hc2 => ?_)
            · refine r_drop (r_app rfl hMa ?_)
              walk_at "g"
              refine ix_l (ex_l eHA hS) (row_at (j := 13) (by omega)) ?_
              walk_at "g"
              refine r_I (show 0 < n by omega) ?_
              walk_at "g"
              refine app_l hMa (sz_lt (by rw [List.length_map]; omega)) ?_
              walk_at "g"
              have nMS : S ≠ M := fun z => by rw [z, hm] at nS; cases nS
              have txM : Tx Ha (upd Ha M (.lst (mks.map V.int ++ [V.int (row.getD 13 0 % n)]))) := tx_lst hMa
              have ez : Ex H (upd Ha M (.lst (mks.map V.int ++ [V.int (row.getD 13 0 % n)]))) := ex_upd eHA nMH
              have hM2 : (upd Ha M (.lst (mks.map V.int ++ [V.int (row.getD 13 0 % n)]))) M = some (.lst ((mks ++ [row.getD 13 0 % n]).map V.int)) := by rw [List.map_append]; exact upd_same
              have hS2 : (upd Ha M (.lst (mks.map V.int ++ [V.int (row.getD 13 0 % n)]))) S = some (.lst vs) := by rw [upd_ne nMS]; exact hSa
              have t2 := tA.tx txM
              generalize (upd Ha M (.lst (mks.map V.int ++ [V.int (row.getD 13 0 % n)]))) = Hz at ez hM2 hS2 t2
              refine ix_l (ex_l ez hS) (row_at (j := 16) (by omega)) ?_
              walk_at "g"
              refine r_I (show 0 < n by omega) ?_
              walk_at "g"
              refine tup_go' fun pf Hf npf eF hpf => ?_
              walk_at "g"
              exact q pf M S vs ⟨n, row.getD 16 0 % n, (mks ++ [row.getD 13 0 % n]), ss⟩ Hf (none_ex ez npf) (ez.trans eF) ⟨hpf, eF _ _ hM2, eF _ _ hS2, t2.tx (tx_ex eF)⟩ ⟨n1, n5, mr2, (by show (mks ++ [row.getD 13 0 % n]).length ≤ 10; rw [List.length_append]; show mks.length + 1 ≤ 10; omega), fun s hs => (sA s hs).1, ly, Int.emod_nonneg _ (by omega), Int.emod_lt_of_pos _ (by omega)⟩ fun s hs => (sA s hs).2
            · walk_at "g"
              refine ix_l (ex_l eHA hS) (row_at (j := 16) (by omega)) ?_
              walk_at "g"
              refine r_I (show 0 < n by omega) ?_
              walk_at "g"
              refine tup_go' fun pf Hf npf eF hpf => ?_
              walk_at "g"
              exact q pf M S vs ⟨n, row.getD 16 0 % n, mks, ss⟩ Hf (none_ex eHA npf) (eHA.trans eF) ⟨hpf, eF _ _ hMa, eF _ _ hSa, tA.tx (tx_ex eF)⟩ ⟨n1, n5, mr, (by show mks.length ≤ 10; omega), fun s hs => (sA s hs).1, ly, Int.emod_nonneg _ (by omega), Int.emod_lt_of_pos _ (by omega)⟩ fun s hs => (sA s hs).2
end

end K12

set_option Elab.async false
set_option linter.all false
set_option maxRecDepth 100000
set_option maxHeartbeats 2000000
namespace K12
open PySem PySem.Spec PyProof.Rows L2 Evl AE
local macro_rules | `(tactic| walk_at "c") => `(tactic| first | exact ⟨by decide, by decide⟩ | exact .inr ⟨by decide, by decide⟩ | exact .inl ⟨by decide, by decide⟩ | exact ⟨by decide, by decide, by decide⟩ | (show (0 : Int) < _; decide))
local macro_rules | `(tactic| walk_at "s") => `(tactic| first
  | (with_reducible refine r_var rfl ?_) | (with_reducible refine r_c ?_) | (with_reducible refine r_op ?_) | (with_reducible refine r_un ?_) | (with_reducible refine r_I0 ?_) | (with_reducible refine r_U ?_)
  | (with_reducible refine r_eq rfl ?_) | (with_reducible refine r_ne rfl ?_) | (with_reducible refine r_chain ?_) | (with_reducible refine r_test ?_) | (with_reducible refine r_tB ?_)
  | (with_reducible refine r_bl ?_) | (with_reducible refine r_and ?_) | (with_reducible refine r_or ?_) | (with_reducible refine r_not ?_) | (with_reducible refine r_nil ?_) | (with_reducible refine r_cons ?_)
  | (with_reducible refine r_tupK ?_) | (with_reducible refine r_lstK ?_) | (with_reducible refine r_cb ?_) | (with_reducible refine r_revL ?_) | (with_reducible refine r_ost ?_) | (with_reducible refine r_mkO ?_) | (with_reducible refine r_makeK ?_) | (with_reducible refine r_make ?_) | (with_reducible refine r_setdN ?_) | (with_reducible refine r_nget2 ?_) | (with_reducible refine r_nnew ?_) | (with_reducible refine r_call ?_) | (with_reducible refine r_seq ?_) | (with_reducible refine r_set ?_)
  | (with_reducible refine r_drop ?_) | (with_reducible refine r_ret ?_) | (with_reducible refine r_next ?_) | (with_reducible refine r_if ?_) | (with_reducible refine r_sl ?_) | (with_reducible refine r_nop ?_) | (with_reducible refine r_prt ?_) | (with_reducible refine r_some ?_)
  | (with_reducible refine add_int ?_) | (with_reducible refine int_i ?_) | (with_reducible refine r_forR1 ?_) | (with_reducible refine r_forR2 ?_) | (with_reducible refine r_meth ?_) | (with_reducible refine r_makeS ?_) | (with_reducible refine r_opS ?_) | (with_reducible refine r_makeRS ?_) | (with_reducible refine r_methH ?_) | (with_reducible refine r_callS ?_) | (with_reducible refine r_forL ?_) | (with_reducible refine r_andV ?_) | (with_reducible refine r_orV ?_) | (with_reducible refine r_notV ?_) | (with_reducible refine r_ifE ?_) | (with_reducible refine r_lcL ?_) | (with_reducible refine r_fld ?_) | (with_reducible refine r_get ?_) | (with_reducible refine r_din ?_) | (with_reducible refine r_dget2 ?_) | ((with_reducible refine r_I ?_ ?_); (walk_at "c")))
local macro_rules | `(tactic| walk_at "g") => `(tactic| repeat walk_at "s")
section
variable {P : Program} {w : World} {K : PySem.W.Frag} {mg : Str → Option Value} {base : Heap}
def sp_cmp (T : Tp K mg) : Sp := fun vs H Q _ => ∃ (x o : Addr) (m1 m2 : Mach) (Pl : List NK) (M : Nat) (due : Bool), vs = [.ref x, .ref o, .bl due] ∧ MachAt H x T.C_Pattern m1 ∧ MachAt H o T.C_Pattern m2 ∧ DuelF (tkP m1 m2) Pl M ∧ (∀ k ∈ Pl, ∃ a b : Int, k = .tup [.int a, .int b]) ∧ m1.rows.length ≤ 600 ∧ m2.rows.length ≤ 600 ∧ NK.tup [.int m1.now, .int m2.now] ∈ Pl ∧
  (due = true ↔ ¬ Lose (tkP m1 m2) (.tup [.int m1.now, .int m2.now])) ∧ ∀ H', Ex H H' → Q (.bl true) H'
theorem ok_cmp (T : Tp K mg) : FnOk P w K mg base CX0 10 T.a__law_compared T.d__law_compared ["_law_one", "_law_two", "_law_due"] (sp_cmp T) := by
  have G_le : FnOk P w K mg base CX0 9 T.a_Pattern___le__ T.d_Pattern___le__ ["self", "other"] (sp_le T) := ok_le T
  refine T.f__law_compared.ok sc__law_compared (fun vs H Q E h => ?_) (fun cdv A outer s H vs Q E hr h => ?_)
  · obtain ⟨x, o, m1, m2, Pl, M, due, rfl, _⟩ := h
    rfl
  · obtain ⟨x, o, m1, m2, Pl, M, due, rfl, hx, ho, DF, hPl, h1, h2, hs, hd, q⟩ := h
    refine ⟨_, (pss_cons (ps_set (i := 3) sc__law_compared.nd rfl (.inl rfl) (pe_cmpR (op_leO (C := T.C_Pattern) T.me_Pattern___le__.at_ T.fn_le T.nf_Pattern G_le (hr.mono (by decide)) T.b_Pattern___le__ pass0) (pv 0) (pv 1) (nomark _)))
  (pss_one (ps_ret (pe_and (pe_callB c_isinstance (by rfl) T.n_isinstance (by rfl) (pa_cons (pv 3) (pa_cons (pe_bltn (by rfl) T.n_bool (by rfl) (show RelV (.ty "bool") (.type "bool") from rfl)) pa_nil))) (pe_one (pe_cmpR op_eq (pv 3) (pv 2) (nomark _))))))), ?_⟩
    walk_at "g"
    obtain ⟨dx1, fs1, hfx, _⟩ := hx.nw
    obtain ⟨dx2, fs2, hfo, _⟩ := ho.nw
    refine ⟨x, o, dx1, dx2, fs1, fs2, rfl, rfl, hfx, hfo, ?_⟩
    refine ⟨x, o, m1, m2, Pl, M, rfl, hx, ho, DF, hPl, h1, h2, hs, fun b H1 hb e1 => ?_⟩
    walk_at "g"
    refine ⟨_, _, _, _, true, rfl, .ty _, .base (.bl b), rfl, ?_⟩
    refine ⟨_, rfl, ite_t rfl ?_⟩
    walk_at "g"
    have e : b = due := by
      cases b with
      | true => exact (hd.mpr (hb.mp rfl)).symm
      | false =>
        cases due with
        | false => rfl
        | true => exact hb.mpr (hd.mp rfl)
    subst e
    rw [decide_eq_true rfl]
    exact q H1 e1
end

end K12

set_option Elab.async false
set_option linter.all false
set_option maxRecDepth 100000
set_option maxHeartbeats 2000000
namespace K12
open PySem PySem.Spec PyProof.Rows L2 Evl AE
local macro_rules | `(tactic| walk_at "c") => `(tactic| first | exact ⟨by decide, by decide⟩ | exact .inr ⟨by decide, by decide⟩ | exact .inl ⟨by decide, by decide⟩ | exact ⟨by decide, by decide, by decide⟩ | (show (0 : Int) < _; decide))
local macro_rules | `(tactic| walk_at "s") => `(tactic| first
  | (with_reducible refine r_var rfl ?_) | (with_reducible refine r_c ?_) | (with_reducible refine r_op ?_) | (with_reducible refine r_un ?_) | (with_reducible refine r_I0 ?_) | (with_reducible refine r_U ?_)
  | (with_reducible refine r_eq rfl ?_) | (with_reducible refine r_ne rfl ?_) | (with_reducible refine r_chain ?_) | (with_reducible refine r_test ?_) | (with_reducible refine r_tB ?_)
  | (with_reducible refine r_bl ?_) | (with_reducible refine r_and ?_) | (with_reducible refine r_or ?_) | (with_reducible refine r_not ?_) | (with_reducible refine r_nil ?_) | (with_reducible refine r_cons ?_)
  | (with_reducible refine r_tupK ?_) | (with_reducible refine r_lstK ?_) | (with_reducible refine r_cb ?_) | (with_reducible refine r_revL ?_) | (with_reducible refine r_ost ?_) | (with_reducible refine r_mkO ?_) | (with_reducible refine r_makeK ?_) | (with_reducible refine r_make ?_) | (with_reducible refine r_setdN ?_) | (with_reducible refine r_nget2 ?_) | (with_reducible refine r_nnew ?_) | (with_reducible refine r_call ?_) | (with_reducible refine r_seq ?_) | (with_reducible refine r_set ?_)
  | (with_reducible refine r_drop ?_) | (with_reducible refine r_ret ?_) | (with_reducible refine r_next ?_) | (with_reducible refine r_if ?_) | (with_reducible refine r_sl ?_) | (with_reducible refine r_nop ?_) | (with_reducible refine r_prt ?_) | (with_reducible refine r_some ?_)
  | (with_reducible refine add_int ?_) | (with_reducible refine int_i ?_) | (with_reducible refine r_forR1 ?_) | (with_reducible refine r_forR2 ?_) | (with_reducible refine r_meth ?_) | (with_reducible refine r_makeS ?_) | (with_reducible refine r_opS ?_) | (with_reducible refine r_makeRS ?_) | (with_reducible refine r_methH ?_) | (with_reducible refine r_callS ?_) | (with_reducible refine r_forL ?_) | (with_reducible refine r_andV ?_) | (with_reducible refine r_orV ?_) | (with_reducible refine r_notV ?_) | (with_reducible refine r_ifE ?_) | (with_reducible refine r_lcL ?_) | (with_reducible refine r_fld ?_) | (with_reducible refine r_get ?_) | (with_reducible refine r_din ?_) | (with_reducible refine r_dget2 ?_) | ((with_reducible refine r_I ?_ ?_); (walk_at "c")))
local macro_rules | `(tactic| walk_at "g") => `(tactic| repeat walk_at "s")
section
variable {P : Program} {w : World} {K : PySem.W.Frag} {mg : Str → Option Value} {base : Heap}
def sp_law (K : PySem.W.Frag) : Sp := fun vs H Q _ => ∃ (a : Addr) (ns : List Int), vs = [.ref a] ∧ SqL K H a (ns.map V.int) ∧ ∀ H', Q (.bl true) H'
theorem ok_law (T : Tp K mg) : FnOk P w K mg base CX0 12 T.a_law T.d_law ["_law_script"] (sp_law K) := by
  have G__law_draws : FnOk P w K mg base CX0 2 T.a__law_draws T.d__law_draws ["_law_script", "_law_k", "_law_many"] (sp_draws K) := ok_draws T
  have G__law_asks : FnOk P w K mg base CX0 1 T.a__law_asks T.d__law_asks ["_law_row", "_law_many"] (sp_asks K) := ok_asks T
  have G__law_random := ok_random (P := P) (w := w) (base := base) T
  have G__law_client := ok_client (P := P) (w := w) (base := base) T
  have G__law_copied := ok_copied (P := P) (w := w) (base := base) T
  have G__law_follows := ok_follows (P := P) (w := w) (base := base) T
  have G__law_compared := ok_cmp (P := P) (w := w) (base := base) T
  refine T.f_law.ok sc_law (fun vs H Q E h => ?_) (fun cdv A outer s H vs Q E hr h => ?_)
  · obtain ⟨a, ns, rfl, _⟩ := h
    rfl
  · obtain ⟨a, ns, rfl, hS, q⟩ := h
    have hu64 := hu64_of hr
    refine ⟨_, (pss_cons (ps_set (i := 1) sc_law.nd rfl (.inl rfl) (pe_call G__law_draws (hr.mono (by decide)) (by rfl) T.g__law_draws T.f__law_draws.kp T.b__law_draws .nil pass0 (pa_cons (pv 0) (pa_cons pe_int (pa_cons pe_int pa_nil)))))
  (pss_cons (ps_set (i := 2) sc_law.nd rfl (.inl rfl) (pe_call G__law_asks (hr.mono (by decide)) (by rfl) T.g__law_asks T.f__law_asks.kp T.b__law_asks .nil pass0 (pa_cons (pe_call G__law_draws (hr.mono (by decide)) (by rfl) T.g__law_draws T.f__law_draws.kp T.b__law_draws .nil pass0 (pa_cons (pv 0) (pa_cons pe_int (pa_cons pe_int pa_nil)))) (pa_cons (pe_op opAdd pe_int (pe_op op_mod (pe_callTy c_int (by rfl) T.n_int (by rfl) (pa_cons (pe_ix ix_seq (pv 1) pe_int (fun _ _ => rfl)) pa_nil)) pe_int)) pa_nil))))
  (pss_cons (ps_set (i := 3) sc_law.nd rfl (.inl rfl) (pe_callB c_sorted (by rfl) T.n_sorted (by rfl) (pa_cons (pe_lc (own := [("_law_ask", 4)]) (g := gName 4) (tt := tYes) rfl sc_law.nd (pi_list (pv 2)) (blkOk_by (N := N_law) (sc := defScope s_law) (by decide +kernel)) (fun _ _ _ _ _ => (pg_name (i := 4) sc_law.nd rfl (.inl rfl))) (fun _ _ _ _ _ => pts_nil) (fun _ _ _ _ _ => (pe_callTy c_str (by rfl) T.n_str (by rfl) (pa_cons (pv 4) pa_nil)))) pa_nil)))
  (pss_cons (ps_set (i := 5) sc_law.nd rfl (.inl rfl) (pe_call G__law_random (hr.mono (by decide)) (by rfl) T.g__law_random T.f__law_random.kp T.b__law_random .nil pass0 (pa_cons (pe_call G__law_draws (hr.mono (by decide)) (by rfl) T.g__law_draws T.f__law_draws.kp T.b__law_draws .nil pass0 (pa_cons (pv 0) (pa_cons pe_int (pa_cons pe_int pa_nil)))) (pa_cons (pv 3) pa_nil))))
  (pss_cons (ps_set (i := 6) sc_law.nd rfl (.inl rfl) (pe_call G__law_copied (hr.mono (by decide)) (by rfl) T.g__law_copied T.f__law_copied.kp T.b__law_copied .nil pass0 (pa_cons (pe_call G__law_draws (hr.mono (by decide)) (by rfl) T.g__law_draws T.f__law_draws.kp T.b__law_draws .nil pass0 (pa_cons (pv 0) (pa_cons pe_int (pa_cons pe_int pa_nil)))) (pa_cons (pv 5) (pa_cons (pv 3) pa_nil)))))
  (pss_cons (ps_set (i := 7) sc_law.nd rfl (.inl rfl) (pe_call G__law_client (hr.mono (by decide)) (by rfl) T.g__law_client T.f__law_client.kp T.b__law_client .nil pass0 (pa_cons (pv 5) pa_nil)))
  (pss_cons (ps_set (i := 8) sc_law.nd rfl (.inl rfl) (pe_call G__law_client (hr.mono (by decide)) (by rfl) T.g__law_client T.f__law_client.kp T.b__law_client .nil pass0 (pa_cons (pv 6) pa_nil)))
  (pss_cons (ps_for PassesOwn.never rfl (pi_range1 rfl T.n_range (pa_cons pe_int pa_nil)) (pg_name (i := 9) sc_law.nd rfl (.inl rfl))
  (pss_cons (ps_if (pt_not (pt_val (pe_call G__law_compared (hr.mono (by decide)) (by rfl) T.g__law_compared T.f__law_compared.kp T.b__law_compared .nil pass0 (pa_cons (pv 8) (pa_cons (pv 7) (pa_cons (pe_call G__law_follows (hr.mono (by decide)) (by rfl) T.g__law_follows T.f__law_follows.kp T.b__law_follows .nil pass0 (pa_cons (pv 6) (pa_cons (pv 5) (pa_cons (pv 3) pa_nil)))) pa_nil)))))) (pss_one (ps_ret pe_bl)) pss_nil)
  (pss_cons (ps_if (pt_not (pt_val (pe_call G__law_compared (hr.mono (by decide)) (by rfl) T.g__law_compared T.f__law_compared.kp T.b__law_compared .nil pass0 (pa_cons (pv 7) (pa_cons (pv 8) (pa_cons (pe_call G__law_follows (hr.mono (by decide)) (by rfl) T.g__law_follows T.f__law_follows.kp T.b__law_follows .nil pass0 (pa_cons (pv 5) (pa_cons (pv 6) (pa_cons (pv 3) pa_nil)))) pa_nil)))))) (pss_one (ps_ret pe_bl)) pss_nil)
  (pss_one (ps_if (PW.pt (pw_or (pt_not (pt_val (pe_call G__law_compared (hr.mono (by decide)) (by rfl) T.g__law_compared T.f__law_compared.kp T.b__law_compared .nil pass0 (pa_cons (pv 7) (pa_cons (pv 7) (pa_cons pe_bl pa_nil)))))) (pw_or1 (pt_not (pt_val (pe_call G__law_compared (hr.mono (by decide)) (by rfl) T.g__law_compared T.f__law_compared.kp T.b__law_compared .nil pass0 (pa_cons (pv 8) (pa_cons (pv 8) (pa_cons pe_bl pa_nil))))))))) (pss_one (ps_ret pe_bl)) pss_nil)))))
  (pss_one (ps_ret (pe_and (pe_cmpR op_eq (pe_fld (pv 7) rfl) (pe_ix ix_seq (pv 5) pe_int (fun _ _ => rfl)) (nomark _)) (pe_and (pe_cmpR op_eq (pe_fld (pv 8) rfl) (pe_ix ix_seq (pv 6) pe_int (fun _ _ => rfl)) (nomark _)) (pe_and (pe_callB c_isinstance (by rfl) T.n_isinstance (by rfl) (pa_cons (pv 8) (pa_cons (pe_glob rfl T.g_Pattern (show RelV (.ref T.C_Pattern) (.ref T.C_Pattern) from rfl)) pa_nil))) (pe_one (pe_callB c_isinstance (by rfl) T.n_isinstance (by rfl) (pa_cons (pv 7) (pa_cons (pe_glob rfl T.g_Machine (show RelV (.ref T.C_Machine) (.ref T.C_Machine) from rfl)) pa_nil))))))))))))))))), ?_⟩
    walk_at "g"
    refine ⟨a, ns, 0, 4, rfl, hS, by decide, by decide, by decide, fun ps0 H1 fs e1 t1 => ?_⟩
    have d1 : (drawsF ns 0 4).length = 4 := draws_len ns 0 4
    have d2 : (drawsF ns 1 13).length = 13 := draws_len ns 1 13
    have bd := draws_bd ns 0 4
    generalize drawsF ns 0 4 = row at t1 d1 bd
    walk_at "g"
    refine ⟨a, ns, 1, 13, rfl, ex_l e1 hS, by decide, by decide, by decide, fun pk H2 fk e2 t2 => ?_⟩
    walk_at "g"
    refine ix_l (.inl (.inl (e2 _ _ t1))) (row_at (j := 1) (by omega)) ?_
    walk_at "g"
    have hm0 : 1 ≤ 1 + row.getD 1 0 % 3 ∧ 1 + row.getD 1 0 % 3 ≤ 3 := by omega
    generalize 1 + row.getD 1 0 % 3 = cnt at hm0
    refine ⟨pk, drawsF ns 1 13, cnt, rfl, .inl (.inl t2), d2, draws_bd ns 1 13, by omega, by omega, fun pn H3 fn e3 t3 => ?_⟩
    have nl := asks_len (drawsF ns 1 13) cnt.toNat
    walk_at "g"
    refine lcl_go (xs := (asksF (drawsF ns 1 13) cnt.toNat).map V.str) (fun _ => true) (fun v => v) (.inl (.inl t3)) (by rw [List.length_map, nl]; omega) (fun _ => rfl) yes_t ?_ ?_
    · intro v hv _ H4 e4 R r
      obtain ⟨x, _, rfl⟩ := List.mem_map.mp hv
      walk_at "g"
      exact ⟨x, rfl, r H4 (Ex.refl _)⟩
    intro pl H4 hl4 e4 t4
    rw [filter_yes, List.map_id'] at t4
    walk_at "g"
    refine ⟨pl, asksF (drawsF ns 1 13) cnt.toNat, rfl, .inl (.inl t4), by rw [nl]; exact Nat.le_of_lt (sz_lt (by omega)), fun asks pA pp hs hps => ?_⟩
    have up := sorted_up pp hs (asks_nodup (by omega) (draws_bd ns 1 13) (by omega))
    have ak : ∀ x ∈ asks, AskOk x := fun x hx => asks_ok (by omega) _ x (pp.mem_iff.mp hx)
    have al : asks.length ≤ 3 := by rw [pp.length_eq, nl]; omega
    have al4 : asks.length ≤ 4 := by omega
    have e5 := Ex.new (o := .lst (asks.map V.str)) hps
    have t5 : (upd H4 pA (.lst (asks.map V.str))) pA = some (.lst (asks.map V.str)) := upd_same
    generalize (upd H4 pA (.lst (asks.map V.str))) = H5 at e5 t5
    have X5 : Ex H H5 := e1.trans (e2.trans (e3.trans (e4.trans e5)))
    have E1 := (e2.trans (e3.trans (e4.trans e5))) _ _ t1
    have hS5 := ex_l X5 hS
    clear t1 e1 e2 e3 e4 e5 fs fk fn hl4 t2 t3 t4 hps X5 hS
    walk_at "g"
    refine ⟨a, ns, 2, 24, rfl, hS5, by decide, by decide, by decide, fun pr H6 fr e6 t6 => ?_⟩
    walk_at "g"
    have hS6 := ex_l e6 hS5
    have t56 := e6 _ _ t5
    refine ⟨pr, pA, drawsF ns 2 24, asks, rfl, .inl (.inl t6), draws_len ns 2 24, draws_bd ns 2 24, .inl (.inl t56), al4, fun pb am as_ us H7 fb e7 pd => ?_⟩
    have okp := rand_ok (row := drawsF ns 2 24) ak al4 up
    have sub : ∀ s ∈ (randF (drawsF ns 2 24) asks).ss, s.2.1 ∈ asks := fun s hs => (grid_in (show s ∈ gridF asks _ _ from hs)).2.2.1
    have c16 := rand_few (row := drawsF ns 2 24) al4
    generalize randF (drawsF ns 2 24) asks = p at pd okp sub c16
    have asl : 1 ≤ asks.length := by rw [pp.length_eq, nl]; omega
    walk_at "g"
    have t57 := e7 _ _ t56
    have hS7 := ex_l e7 hS6
    refine ⟨a, ns, 3, 24, rfl, hS7, by decide, by decide, by decide, fun pr2 H8 fr2 e8 t8 => ?_⟩
    walk_at "g"
    refine ⟨pr2, pb, pA, am, as_, drawsF ns 3 24, p, us, asks, rfl, .inl (.inl t8), draws_len ns 3 24, draws_bd ns 3 24, pd.ex e8, okp, .inl (.inl (e8 _ _ t57)), al4, asl, ak, sub, c16, fun qb am2 as2 us2 p2 H9 nqb e9 pd2 ok2 sub2 => ?_⟩
    walk_at "g"
    have pd9 := pd.ex (e8.trans e9)
    refine ⟨pb, am, as_, p, us, rfl, pd9, okp.q, fun y1 m1 H10 ny1 e10 md1 ma1 => ?_⟩
    walk_at "g"
    refine ⟨qb, am2, as2, p2, us2, rfl, pd2.ex e10, ok2, fun y2 m2 H11 ny2 e11 md2 ma2 => ?_⟩
    walk_at "g"
    have h12 : Two p p2 m1 m2 asks := ⟨okp.q, ok2, sub, sub2, md1, md2, al4, ak⟩
    have h21 : Two p2 p m2 m1 asks := ⟨ok2, okp.q, sub2, sub, md2, md1, al4, ak⟩
    have h11 : Two p p m1 m1 asks := ⟨okp.q, okp.q, sub, sub, md1, md1, al4, ak⟩
    have h22 : Two p2 p2 m2 m2 asks := ⟨ok2, ok2, sub2, sub2, md2, md2, al4, ak⟩
    have l1 : m1.rows.length ≤ 600 := Nat.le_trans md1.len okp.q.sl
    have l2 : m2.rows.length ≤ 600 := Nat.le_trans md2.len ok2.sl
    have ma1' := ma1.ex e11
    have pd2' := pd2.ex (e10.trans e11)
    have pd' := pd9.ex (e10.trans e11)
    have tA : H11 pA = some (.lst (asks.map V.str)) := ((e8.trans e9).trans (e10.trans e11)) _ _ t57
    refine lr1_go (fun i σ' Ha => ∃ y9, σ' = [some (.ref a), some (.ref ps0), some (.ref pn), some (.ref pA), none, some (.ref pb), some (.ref qb), some (.ref y1), some (.ref y2), y9] ∧ Ex H11 Ha) ⟨_, rfl, Ex.refl _⟩ ⟨by decide, by decide⟩ ?_ ?_
    · rintro i σ' Ha hi ⟨y9, rfl, eA⟩
      walk_at "g"
      refine ⟨qb, pb, pA, am2, as2, am, as_, p2, p, us2, us, asks, Lose (tkP m2 m1), rfl, pd2'.ex eA, pd'.ex eA, ok2, okp.q, .inl (.inl (eA _ _ tA)), al4, h21.base, h21.step, fun t Hb eb so cl st => ?_⟩
      walk_at "g"
      have eAb := eA.trans eb
      refine ⟨y2, y1, m2, m1, _, 100, _, rfl, ma2.ex eAb, ma1'.ex eAb, h21.few, Two.pl, l2, l1, h21.at_, h21.iff so cl st, fun Hc ec => ?_⟩
      walk_at "g"
      refine ite_f rfl ?_
      walk_at "g"
      have eAc := eAb.trans ec
      refine ⟨pb, qb, pA, am, as_, am2, as2, p, p2, us, us2, asks, Lose (tkP m1 m2), rfl, pd'.ex eAc, pd2'.ex eAc, okp.q, ok2, .inl (.inl (eAc _ _ tA)), al4, h12.base, h12.step, fun t Hd ed so cl st => ?_⟩
      walk_at "g"
      have eAd := eAc.trans ed
      refine ⟨y1, y2, m1, m2, _, 100, _, rfl, ma1'.ex eAd, ma2.ex eAd, h12.few, Two.pl, l1, l2, h12.at_, h12.iff so cl st, fun He ee => ?_⟩
      walk_at "g"
      refine ite_f rfl ?_
      walk_at "g"
      have eAe := eAd.trans ee
      refine ⟨y1, y1, m1, m1, _, 100, true, rfl, ma1'.ex eAe, ma1'.ex eAe, h11.few, Two.pl, l1, l1, h11.at_, ⟨fun _ l => Two.self l _ rfl, fun _ => rfl⟩, fun Hf ef => ?_⟩
      walk_at "g"
      refine ite_f rfl ?_
      walk_at "g"
      have eAf := eAe.trans ef
      refine ⟨y2, y2, m2, m2, _, 100, true, rfl, ma2.ex eAf, ma2.ex eAf, h22.few, Two.pl, l2, l2, h22.at_, ⟨fun _ l => Two.self l _ rfl, fun _ => rfl⟩, fun Hg eg => ?_⟩
      walk_at "g"
      refine ite_f rfl ?_
      walk_at "g"
      exact ⟨_, rfl, eAf.trans eg⟩
    · rintro σ' Ha ⟨y9, rfl, eA⟩
      walk_at "g"
      obtain ⟨dx1, fs1, hf1, nw1⟩ := (ma1'.ex eA).nw
      obtain ⟨dx2, fs2, hf2, nw2⟩ := (ma2.ex eA).nw
      have mc := T.cf_Pattern
      refine gtf_go hf1 mc.cl mc.n4 (v := .int m1.now) nw1 ?_
      walk_at "g"
      refine ix_t (.inl (.inl (eA _ _ pd'.1))) (show atI _ 3 = some (.int p.now) from rfl) ?_
      walk_at "g"
      refine ite_t (decide_eq_true (by rw [md1.now])) ?_
      walk_at "g"
      refine gtf_go hf2 mc.cl mc.n4 (v := .int m2.now) nw2 ?_
      walk_at "g"
      refine ix_t (.inl (.inl (eA _ _ pd2'.1))) (show atI _ 3 = some (.int p2.now) from rfl) ?_
      walk_at "g"
      refine ite_t (decide_eq_true (by rw [md2.now])) ?_
      walk_at "g"
      refine ⟨_, _, _, _, true, rfl, .own _, .base (.ins hf2 (T.cf_Pattern).cl (T.cc_Pattern).o1 (T.cc_Pattern).o2 (T.cc_Pattern).o3 (T.cc_Pattern).o4), T.is_Pattern_Pattern, ?_⟩
      refine ⟨_, rfl, ite_t rfl ?_⟩
      walk_at "g"
      refine ⟨_, _, _, _, true, rfl, .own _, .base (.ins hf1 (T.cf_Pattern).cl (T.cc_Pattern).o1 (T.cc_Pattern).o2 (T.cc_Pattern).o3 (T.cc_Pattern).o4), T.is_Pattern, ?_⟩
      walk_at "g"
      exact q _
end

end K12

set_option Elab.async false
set_option linter.all false
set_option maxRecDepth 100000
set_option maxHeartbeats 4000000
namespace K12
open PySem PySem.Spec PyProof.Rows L2 Evl AE
theorem all_mk {l : PySem.W.OpenLaw} {w : World} {K : PySem.W.Frag} {h : Heap} {mg : Str → Option Value} {fa C_Machine C_Service C_Pattern C_PatternDuel f0 f1 f2 f3 f4 f5 f6 f7 f8 f9 f10 f11 f12 f13 f14 f15 f16 f17 f18 f19 f20 f21 f22 f23 f24 f25 f26 f27 f28 f29 f30 : Addr} {d0 d1 d2 d3 d4 d5 d6 d7 d8 d9 d10 d11 d12 d13 d14 d15 d16 d17 d18 d19 d20 d21 d22 d23 d24 d25 d26 d27 d28 d29 d30 : FuncData} {tk_MOST_STATES tk_MOST_STEPS tk_LONGEST_ASK : Tok} (X : K.In h) (G : h.Ns mainGlobals mg) (hfa : mg "law" = some (.ref fa))
    (qMachine : PySem.W.nsIn K mainGlobals "Machine" = some (some (.ref C_Machine)))
    (qService : PySem.W.nsIn K mainGlobals "Pattern" = some (some (.ref C_Service)))
    (qPattern : PySem.W.nsIn K mainGlobals "Pattern" = some (some (.ref C_Pattern)))
    (qPatternDuel : PySem.W.nsIn K mainGlobals "PatternDuel" = some (some (.ref C_PatternDuel)))
    (a0 : PySem.W.nsIn K mainGlobals "_law_cell" = some (some (.ref f0)))
    (a1 : PySem.W.nsIn K mainGlobals "_law_draws" = some (some (.ref f1)))
    (a2 : PySem.W.nsIn K mainGlobals "_law_asks" = some (some (.ref f2)))
    (a3 : PySem.W.nsIn K mainGlobals "_law_marks" = some (some (.ref f3)))
    (a4 : PySem.W.nsIn K mainGlobals "_law_random" = some (some (.ref f4)))
    (a5 : PySem.W.nsIn K mainGlobals "_law_pairs" = some (some (.ref f5)))
    (a6 : PySem.W.nsIn K mainGlobals "_law_client" = some (some (.ref f6)))
    (a7 : PySem.W.nsIn K mainGlobals "_law_copied" = some (some (.ref f7)))
    (a8 : PySem.W.nsIn K mainGlobals "_law_strike" = some (some (.ref f8)))
    (a9 : PySem.W.nsIn K mainGlobals "_law_follows" = some (some (.ref f9)))
    (a10 : PySem.W.nsIn K mainGlobals "_law_compared" = some (some (.ref f10)))
    (a11 : PySem.W.nsIn K mainGlobals "law" = some (some (.ref f11)))
    (a12 : PySem.W.nsIn K mainGlobals "check_size" = some (some (.ref f12)))
    (a13 : PySem.W.nsIn K mainGlobals "check_marks" = some (some (.ref f13)))
    (a14 : PySem.W.nsIn K mainGlobals "check_steps" = some (some (.ref f14)))
    (a15 : PySem.W.nsIn K mainGlobals "is_ask" = some (some (.ref f15)))
    (a16 : PySem.W.nsIn K mainGlobals "ascending" = some (some (.ref f16)))
    (a17 : PySem.W.nsIn K mainGlobals "ends_by_ask" = some (some (.ref f17)))
    (a18 : PySem.W.nsIn K mainGlobals "pairs_by_state" = some (some (.ref f18)))
    (inService : PySem.W.findIn K (.ref C_Service) "__init__" = some (some (.ref f19)))
    (inPattern : PySem.W.findIn K (.ref C_Pattern) "__init__" = some (some (.ref f19)))
    (i19 : PySem.W.isFn K (.ref f19) = true)
    (meService__getitem__ : PySem.W.findIn K (.ref C_Service) "__getitem__" = some (some (.ref f20)))
    (mePattern__getitem__ : PySem.W.findIn K (.ref C_Pattern) "__getitem__" = some (some (.ref f20)))
    (i20 : PySem.W.isFn K (.ref f20) = true)
    (meServiceends_at : PySem.W.findIn K (.ref C_Service) "ends_at" = some (some (.ref f21)))
    (mePatternends_at : PySem.W.findIn K (.ref C_Pattern) "ends_at" = some (some (.ref f21)))
    (i21 : PySem.W.isFn K (.ref f21) = true)
    (mePatternpairs_at : PySem.W.findIn K (.ref C_Pattern) "pairs_at" = some (some (.ref f22)))
    (i22 : PySem.W.isFn K (.ref f22) = true)
    (meService__bool__ : PySem.W.findIn K (.ref C_Service) "__bool__" = some (some (.ref f23)))
    (mePattern__bool__ : PySem.W.findIn K (.ref C_Pattern) "__bool__" = some (some (.ref f23)))
    (i23 : PySem.W.isFn K (.ref f23) = true)
    (mePattern__le__ : PySem.W.findIn K (.ref C_Pattern) "__le__" = some (some (.ref f24)))
    (i24 : PySem.W.isFn K (.ref f24) = true)
    (inPatternDuel : PySem.W.findIn K (.ref C_PatternDuel) "__init__" = some (some (.ref f25)))
    (i25 : PySem.W.isFn K (.ref f25) = true)
    (mePatternDueltasks_at : PySem.W.findIn K (.ref C_PatternDuel) "tasks_at" = some (some (.ref f26)))
    (i26 : PySem.W.isFn K (.ref f26) = true)
    (a27 : PySem.W.nsIn K mainGlobals "is_held" = some (some (.ref f27)))
    (a28 : PySem.W.nsIn K mainGlobals "reached_tasks" = some (some (.ref f28)))
    (a29 : PySem.W.nsIn K mainGlobals "beaten_places" = some (some (.ref f29)))
    (a30 : PySem.W.nsIn K mainGlobals "option_uses" = some (some (.ref f30)))
    (n_len : PySem.W.nsIn K mainGlobals "len" = some none)
    (n_int : PySem.W.nsIn K mainGlobals "int" = some none)
    (n_range : PySem.W.nsIn K mainGlobals "range" = some none)
    (n_isinstance : PySem.W.nsIn K mainGlobals "isinstance" = some none)
    (n_bool : PySem.W.nsIn K mainGlobals "bool" = some none)
    (n_list : PySem.W.nsIn K mainGlobals "list" = some none)
    (n_tuple : PySem.W.nsIn K mainGlobals "tuple" = some none)
    (n_all : PySem.W.nsIn K mainGlobals "all" = some none)
    (n_sorted : PySem.W.nsIn K mainGlobals "sorted" = some none)
    (n_str : PySem.W.nsIn K mainGlobals "str" = some none)
    (n_enumerate : PySem.W.nsIn K mainGlobals "enumerate" = some none)
    (pgService : PySem.W.plainGet K C_Service Str.empty = true)
    (hdService : PySem.W.hasDictIn K C_Service = true)
    (poService : PySem.W.plainOver K C_Service = true)
    (saService : PySem.W.findIn K (.ref C_Service) "__setattr__" = some (some (.builtin "object.__setattr__")))
    (naService0 : PySem.W.findIn K (.ref C_Service) "size" = some none)
    (naService1 : PySem.W.findIn K (.ref C_Service) "marks" = some none)
    (naService2 : PySem.W.findIn K (.ref C_Service) "steps" = some none)
    (naService3 : PySem.W.findIn K (.ref C_Service) "now" = some none)
    (naService4 : PySem.W.findIn K (.ref C_Service) "_ends" = some none)
    (naService5 : PySem.W.findIn K (.ref C_Service) "_pairs" = some none)
    (mkService : PySem.W.makesIn K C_Service = true)
    (kcService : PySem.W.keepIn K (.ref C_Service) = true)
    (isServiceMachine : PySem.W.kitOne K (.ref C_Service) (.ref C_Machine) = some true)
    (pgPattern : PySem.W.plainGet K C_Pattern Str.empty = true)
    (hdPattern : PySem.W.hasDictIn K C_Pattern = true)
    (poPattern : PySem.W.plainOver K C_Pattern = true)
    (saPattern : PySem.W.findIn K (.ref C_Pattern) "__setattr__" = some (some (.builtin "object.__setattr__")))
    (naPattern0 : PySem.W.findIn K (.ref C_Pattern) "size" = some none)
    (naPattern1 : PySem.W.findIn K (.ref C_Pattern) "marks" = some none)
    (naPattern2 : PySem.W.findIn K (.ref C_Pattern) "steps" = some none)
    (naPattern3 : PySem.W.findIn K (.ref C_Pattern) "now" = some none)
    (naPattern4 : PySem.W.findIn K (.ref C_Pattern) "_ends" = some none)
    (naPattern5 : PySem.W.findIn K (.ref C_Pattern) "_pairs" = some none)
    (mkPattern : PySem.W.makesIn K C_Pattern = true)
    (kcPattern : PySem.W.keepIn K (.ref C_Pattern) = true)
    (isPatternMachine : PySem.W.kitOne K (.ref C_Pattern) (.ref C_Machine) = some true)
    (pgPatternDuel : PySem.W.plainGet K C_PatternDuel Str.empty = true)
    (hdPatternDuel : PySem.W.hasDictIn K C_PatternDuel = true)
    (poPatternDuel : PySem.W.plainOver K C_PatternDuel = true)
    (saPatternDuel : PySem.W.findIn K (.ref C_PatternDuel) "__setattr__" = some (some (.builtin "object.__setattr__")))
    (naPatternDuel0 : PySem.W.findIn K (.ref C_PatternDuel) "first" = some none)
    (naPatternDuel1 : PySem.W.findIn K (.ref C_PatternDuel) "second" = some none)
    (mkPatternDuel : PySem.W.makesIn K C_PatternDuel = true)
    (kcPatternDuel : PySem.W.keepIn K (.ref C_PatternDuel) = true)
    (fgi : PySem.W.fnIn K f20 = true)
    (fle : PySem.W.isFn K (.ref f24) = true)
    (nfP : PySem.W.notFirst K C_Pattern (.ref C_Pattern) = true)
    (oE2 : PySem.W.specialIn K (.builtin "object.__class__") "__get__" = some (some (.builtin "getset_descriptor.__get__")))
    (oE3 : PySem.W.takesIn K (.builtin "object.__class__") = some true)
    (o1Service : PySem.W.findIn K (.ref C_Service) "__class__" = some (some (.builtin "object.__class__")))
    (o4Service : PySem.W.mroIn K C_Service (.type "object") = some true)
    (nqService : PySem.W.noSeq K C_Service = true)
    (o1Pattern : PySem.W.findIn K (.ref C_Pattern) "__class__" = some (some (.builtin "object.__class__")))
    (o4Pattern : PySem.W.mroIn K C_Pattern (.type "object") = some true)
    (nqPattern : PySem.W.noSeq K C_Pattern = true)
    (F0 : Fun K "_law_cell" "_law_cell" s__law_cell f0 d0)
    (F1 : Fun K "_law_draws" "_law_draws" s__law_draws f1 d1)
    (F2 : Fun K "_law_asks" "_law_asks" s__law_asks f2 d2)
    (F3 : Fun K "_law_marks" "_law_marks" s__law_marks f3 d3)
    (F4 : Fun K "_law_random" "_law_random" s__law_random f4 d4)
    (F5 : Fun K "_law_pairs" "_law_pairs" s__law_pairs f5 d5)
    (F6 : Fun K "_law_client" "_law_client" s__law_client f6 d6)
    (F7 : Fun K "_law_copied" "_law_copied" s__law_copied f7 d7)
    (F8 : Fun K "_law_strike" "_law_strike" s__law_strike f8 d8)
    (F9 : Fun K "_law_follows" "_law_follows" s__law_follows f9 d9)
    (F10 : Fun K "_law_compared" "_law_compared" s__law_compared f10 d10)
    (F11 : Fun K "law" "law" s_law f11 d11)
    (F12 : Fun K "check_size" "check_size" s_check_size f12 d12)
    (F13 : Fun K "check_marks" "check_marks" s_check_marks f13 d13)
    (F14 : Fun K "check_steps" "check_steps" s_check_steps f14 d14)
    (F15 : Fun K "is_ask" "is_ask" s_is_ask f15 d15)
    (F16 : Fun K "ascending" "ascending" s_ascending f16 d16)
    (F17 : Fun K "ends_by_ask" "ends_by_ask" s_ends_by_ask f17 d17)
    (F18 : Fun K "pairs_by_state" "pairs_by_state" s_pairs_by_state f18 d18)
    (F19 : FunD K "__init__" "Machine.__init__" (defArgs s_Machine___init__) (defBody s_Machine___init__) (defScope s_Machine___init__) [.int 0] [] f19 d19)
    (F20 : Fun K "__getitem__" "Machine.__getitem__" s_Machine___getitem__ f20 d20)
    (F21 : Fun K "ends_at" "Machine.ends_at" s_Machine_ends_at f21 d21)
    (F22 : Fun K "pairs_at" "Machine.pairs_at" s_Machine_pairs_at f22 d22)
    (F23 : Fun K "__bool__" "Machine.__bool__" s_Machine___bool__ f23 d23)
    (F24 : Fun K "__le__" "Pattern.__le__" s_Pattern___le__ f24 d24)
    (F25 : Fun K "__init__" "PatternDuel.__init__" s_PatternDuel___init__ f25 d25)
    (F26 : Fun K "tasks_at" "PatternDuel.tasks_at" s_PatternDuel_tasks_at f26 d26)
    (F27 : Fun K "is_held" "is_held" s_is_held f27 d27)
    (F28 : Fun K "reached_tasks" "reached_tasks" s_reached_tasks f28 d28)
    (F29 : Fun K "beaten_places" "beaten_places" s_beaten_places f29 d29)
    (F30 : Fun K "option_uses" "option_uses" s_option_uses f30 d30)
    (xMOST_STATES : PySem.W.nsIn K mainGlobals "MOST_STATES" = some (some (.int (200) tk_MOST_STATES)))
    (xMOST_STEPS : PySem.W.nsIn K mainGlobals "MOST_STEPS" = some (some (.int (600) tk_MOST_STEPS)))
    (xLONGEST_ASK : PySem.W.nsIn K mainGlobals "LONGEST_ASK" = some (some (.int (8) tk_LONGEST_ASK))) :
    ∃ fd : FuncData, (∀ (s : Shared) (v : Value), BindsTo s fd ⟨[v], []⟩ [("_law_script", v)]) ∧ ∀ base : Heap, K.In base → base.Ns mainGlobals mg → FnOk l.prog w K mg base CX0 12 fa fd ["_law_script"] (sp_law K) := by
  have e := hfa.symm.trans (PySem.W.mg_of X G a11)
  cases e
  have k30 := F30.kp
  have k29 := F29.kp
  have k28 := F28.kp
  have k27 := F27.kp
  have k26 := F26.kp
  have k25 := F25.kp
  have k24 := F24.kp
  have k23 := F23.kp
  have k22 := F22.kp
  have k21 := F21.kp
  have k20 := F20.kp
  have k19 := F19.kp
  have k18 := F18.kp
  have k17 := F17.kp
  have k16 := F16.kp
  have k15 := F15.kp
  have k14 := F14.kp
  have k13 := F13.kp
  have k12 := F12.kp
  have k11 := F11.kp
  have k10 := F10.kp
  have k9 := F9.kp
  have k8 := F8.kp
  have k7 := F7.kp
  have k6 := F6.kp
  have k5 := F5.kp
  have k4 := F4.kp
  have k3 := F3.kp
  have k2 := F2.kp
  have k1 := F1.kp
  have k0 := F0.kp
  have B0 := F0.binds (ps := ["_law_script", "_law_k"]) fun _ _ _ _ _ _ us hl => match us, hl with | [_, _], _ => rfl
  have B1 := F1.binds (ps := ["_law_script", "_law_k", "_law_many"]) fun _ _ _ _ _ _ us hl => match us, hl with | [_, _, _], _ => rfl
  have B2 := F2.binds (ps := ["_law_row", "_law_many"]) fun _ _ _ _ _ _ us hl => match us, hl with | [_, _], _ => rfl
  have B3 := F3.binds (ps := ["_law_digit", "_law_size"]) fun _ _ _ _ _ _ us hl => match us, hl with | [_, _], _ => rfl
  have B4 := F4.binds (ps := ["_law_row", "_law_asks_here"]) fun _ _ _ _ _ _ us hl => match us, hl with | [_, _], _ => rfl
  have B5 := F5.binds (ps := ["_law_plain", "_law_asks_here"]) fun _ _ _ _ _ _ us hl => match us, hl with | [_, _], _ => rfl
  have B6 := F6.binds (ps := ["_law_plain"]) fun _ _ _ _ _ _ us hl => match us, hl with | [_], _ => rfl
  have B7 := F7.binds (ps := ["_law_row", "_law_plain", "_law_asks_here"]) fun _ _ _ _ _ _ us hl => match us, hl with | [_, _, _], _ => rfl
  have B8 := F8.binds (ps := ["_law_first", "_law_one", "_law_two", "_law_there"]) fun _ _ _ _ _ _ us hl => match us, hl with | [_, _, _, _], _ => rfl
  have B9 := F9.binds (ps := ["_law_first", "_law_second", "_law_asks_here"]) fun _ _ _ _ _ _ us hl => match us, hl with | [_, _, _], _ => rfl
  have B10 := F10.binds (ps := ["_law_one", "_law_two", "_law_due"]) fun _ _ _ _ _ _ us hl => match us, hl with | [_, _, _], _ => rfl
  have B11 := F11.binds (ps := ["_law_script"]) fun _ _ _ _ _ _ us hl => match us, hl with | [_], _ => rfl
  have B12 := F12.binds (ps := ["size"]) fun _ _ _ _ _ _ us hl => match us, hl with | [_], _ => rfl
  have B13 := F13.binds (ps := ["size", "marks"]) fun _ _ _ _ _ _ us hl => match us, hl with | [_, _], _ => rfl
  have B14 := F14.binds (ps := ["size", "steps"]) fun _ _ _ _ _ _ us hl => match us, hl with | [_, _], _ => rfl
  have B15 := F15.binds (ps := ["ask"]) fun _ _ _ _ _ _ us hl => match us, hl with | [_], _ => rfl
  have B16 := F16.binds (ps := ["steps"]) fun _ _ _ _ _ _ us hl => match us, hl with | [_], _ => rfl
  have B17 := F17.binds (ps := ["steps"]) fun _ _ _ _ _ _ us hl => match us, hl with | [_], _ => rfl
  have B18 := F18.binds (ps := ["steps"]) fun _ _ _ _ _ _ us hl => match us, hl with | [_], _ => rfl
  have B20 := F20.binds (ps := ["self", "at"]) fun _ _ _ _ _ _ us hl => match us, hl with | [_, _], _ => rfl
  have B21 := F21.binds (ps := ["self", "state", "ask"]) fun _ _ _ _ _ _ us hl => match us, hl with | [_, _, _], _ => rfl
  have B22 := F22.binds (ps := ["self", "state"]) fun _ _ _ _ _ _ us hl => match us, hl with | [_, _], _ => rfl
  have B23 := F23.binds (ps := ["self"]) fun _ _ _ _ _ _ us hl => match us, hl with | [_], _ => rfl
  have B24 := F24.binds (ps := ["self", "other"]) fun _ _ _ _ _ _ us hl => match us, hl with | [_, _], _ => rfl
  have B25 := F25.binds (ps := ["self", "first", "second"]) fun _ _ _ _ _ _ us hl => match us, hl with | [_, _, _], _ => rfl
  have B26 := F26.binds (ps := ["self", "place"]) fun _ _ _ _ _ _ us hl => match us, hl with | [_, _], _ => rfl
  have B27 := F27.binds (ps := ["duel", "start"]) fun _ _ _ _ _ _ us hl => match us, hl with | [_, _], _ => rfl
  have B28 := F28.binds (ps := ["duel", "start"]) fun _ _ _ _ _ _ us hl => match us, hl with | [_, _], _ => rfl
  have B29 := F29.binds (ps := ["tasks"]) fun _ _ _ _ _ _ us hl => match us, hl with | [_], _ => rfl
  have B30 := F30.binds (ps := ["tasks"]) fun _ _ _ _ _ _ us hl => match us, hl with | [_], _ => rfl
  obtain ⟨_, BIv, BI⟩ := F19.binds1 (ps := ["self", "size", "marks", "steps", "now"]) 5 1 (by intro z; cases z) rfl fun T kV doc pm an cdv ct us its hu hi => by
      obtain ⟨u1, u2, u3, u4, u5, rfl⟩ : ∃ u1 u2 u3 u4 u5, us = [u1, u2, u3, u4, u5] := match us, hu with | [u1, u2, u3, u4, u5], _ => ⟨u1, u2, u3, u4, u5, rfl⟩
      obtain ⟨v1, rfl⟩ : ∃ v1, its = [v1] := match its, hi with | [v1], _ => ⟨v1, rfl⟩
      exact ⟨_, rfl, rfl⟩
  cases BIv
  obtain ⟨T, T1, T2⟩ : ∃ T : Tp K mg, T.a_law = fa ∧ T.d_law = d11 := ⟨{ C_Machine := C_Machine, g_Machine := PySem.W.mg_of X G qMachine, C_Service := C_Service, g_Service := PySem.W.mg_of X G qService, C_Pattern := C_Pattern, g_Pattern := PySem.W.mg_of X G qPattern, C_PatternDuel := C_PatternDuel, g_PatternDuel := PySem.W.mg_of X G qPatternDuel, a__law_cell := f0, d__law_cell := d0, b__law_cell := B0, f__law_cell := F0, g__law_cell := PySem.W.mg_of X G a0, a__law_draws := f1, d__law_draws := d1, b__law_draws := B1, f__law_draws := F1, g__law_draws := PySem.W.mg_of X G a1, a__law_asks := f2, d__law_asks := d2, b__law_asks := B2, f__law_asks := F2, g__law_asks := PySem.W.mg_of X G a2, a__law_marks := f3, d__law_marks := d3, b__law_marks := B3, f__law_marks := F3, g__law_marks := PySem.W.mg_of X G a3, a__law_random := f4, d__law_random := d4, b__law_random := B4, f__law_random := F4, g__law_random := PySem.W.mg_of X G a4, a__law_pairs := f5, d__law_pairs := d5, b__law_pairs := B5, f__law_pairs := F5, g__law_pairs := PySem.W.mg_of X G a5, a__law_client := f6, d__law_client := d6, b__law_client := B6, f__law_client := F6, g__law_client := PySem.W.mg_of X G a6, a__law_copied := f7, d__law_copied := d7, b__law_copied := B7, f__law_copied := F7, g__law_copied := PySem.W.mg_of X G a7, a__law_strike := f8, d__law_strike := d8, b__law_strike := B8, f__law_strike := F8, g__law_strike := PySem.W.mg_of X G a8, a__law_follows := f9, d__law_follows := d9, b__law_follows := B9, f__law_follows := F9, g__law_follows := PySem.W.mg_of X G a9, a__law_compared := f10, d__law_compared := d10, b__law_compared := B10, f__law_compared := F10, g__law_compared := PySem.W.mg_of X G a10, a_law := fa, d_law := d11, b_law := B11, f_law := F11, g_law := PySem.W.mg_of X G a11, a_check_size := f12, d_check_size := d12, b_check_size := B12, f_check_size := F12, g_check_size := PySem.W.mg_of X G a12, a_check_marks := f13, d_check_marks := d13, b_check_marks := B13, f_check_marks := F13, g_check_marks := PySem.W.mg_of X G a13, a_check_steps := f14, d_check_steps := d14, b_check_steps := B14, f_check_steps := F14, g_check_steps := PySem.W.mg_of X G a14, a_is_ask := f15, d_is_ask := d15, b_is_ask := B15, f_is_ask := F15, g_is_ask := PySem.W.mg_of X G a15, a_ascending := f16, d_ascending := d16, b_ascending := B16, f_ascending := F16, g_ascending := PySem.W.mg_of X G a16, a_ends_by_ask := f17, d_ends_by_ask := d17, b_ends_by_ask := B17, f_ends_by_ask := F17, g_ends_by_ask := PySem.W.mg_of X G a17, a_pairs_by_state := f18, d_pairs_by_state := d18, b_pairs_by_state := B18, f_pairs_by_state := F18, g_pairs_by_state := PySem.W.mg_of X G a18, a_Machine___init__ := f19, d_Machine___init__ := d19, f_Machine___init__ := F19, a_Machine___getitem__ := f20, d_Machine___getitem__ := d20, b_Machine___getitem__ := B20, f_Machine___getitem__ := F20, a_Machine_ends_at := f21, d_Machine_ends_at := d21, b_Machine_ends_at := B21, f_Machine_ends_at := F21, a_Machine_pairs_at := f22, d_Machine_pairs_at := d22, b_Machine_pairs_at := B22, f_Machine_pairs_at := F22, a_Machine___bool__ := f23, d_Machine___bool__ := d23, b_Machine___bool__ := B23, f_Machine___bool__ := F23, a_Pattern___le__ := f24, d_Pattern___le__ := d24, b_Pattern___le__ := B24, f_Pattern___le__ := F24, a_PatternDuel___init__ := f25, d_PatternDuel___init__ := d25, b_PatternDuel___init__ := B25, f_PatternDuel___init__ := F25, a_PatternDuel_tasks_at := f26, d_PatternDuel_tasks_at := d26, b_PatternDuel_tasks_at := B26, f_PatternDuel_tasks_at := F26, a_is_held := f27, d_is_held := d27, b_is_held := B27, f_is_held := F27, g_is_held := PySem.W.mg_of X G a27, a_reached_tasks := f28, d_reached_tasks := d28, b_reached_tasks := B28, f_reached_tasks := F28, g_reached_tasks := PySem.W.mg_of X G a28, a_beaten_places := f29, d_beaten_places := d29, b_beaten_places := B29, f_beaten_places := F29, g_beaten_places := PySem.W.mg_of X G a29, a_option_uses := f30, d_option_uses := d30, b_option_uses := B30, f_option_uses := F30, g_option_uses := PySem.W.mg_of X G a30, t_MOST_STATES := tk_MOST_STATES, k_MOST_STATES := PySem.W.mg_of X G xMOST_STATES, t_MOST_STEPS := tk_MOST_STEPS, k_MOST_STEPS := PySem.W.mg_of X G xMOST_STEPS, t_LONGEST_ASK := tk_LONGEST_ASK, k_LONGEST_ASK := PySem.W.mg_of X G xLONGEST_ASK, n_len := PySem.W.mg_none_of X G n_len, n_int := PySem.W.mg_none_of X G n_int, n_range := PySem.W.mg_none_of X G n_range, n_isinstance := PySem.W.mg_none_of X G n_isinstance, n_bool := PySem.W.mg_none_of X G n_bool, n_list := PySem.W.mg_none_of X G n_list, n_tuple := PySem.W.mg_none_of X G n_tuple, n_all := PySem.W.mg_none_of X G n_all, n_sorted := PySem.W.mg_none_of X G n_sorted, n_str := PySem.W.mg_none_of X G n_str, n_enumerate := PySem.W.mg_none_of X G n_enumerate, cl_Service := ⟨pgService, hdService, poService, saService⟩, na_Service_size := naService0, na_Service_marks := naService1, na_Service_steps := naService2, na_Service_now := naService3, na_Service__ends := naService4, na_Service__pairs := naService5, mk_Service := ⟨mkService, inService, i19, kcService⟩, me_Service___getitem__ := ⟨meService__getitem__, i20, k20⟩, me_Service___bool__ := ⟨meService__bool__, i23, k23⟩, me_Service_ends_at := ⟨meServiceends_at, i21, k21⟩, is_Service_Machine := isServiceMachine, cl_Pattern := ⟨pgPattern, hdPattern, poPattern, saPattern⟩, na_Pattern_size := naPattern0, na_Pattern_marks := naPattern1, na_Pattern_steps := naPattern2, na_Pattern_now := naPattern3, na_Pattern__ends := naPattern4, na_Pattern__pairs := naPattern5, mk_Pattern := ⟨mkPattern, inPattern, i19, kcPattern⟩, me_Pattern___getitem__ := ⟨mePattern__getitem__, i20, k20⟩, me_Pattern___bool__ := ⟨mePattern__bool__, i23, k23⟩, me_Pattern_ends_at := ⟨mePatternends_at, i21, k21⟩, me_Pattern_pairs_at := ⟨mePatternpairs_at, i22, k22⟩, me_Pattern___le__ := ⟨mePattern__le__, i24, k24⟩, is_Pattern_Machine := isPatternMachine, is_Pattern_Pattern := if_pos (beq_self_eq_true _), cl_PatternDuel := ⟨pgPatternDuel, hdPatternDuel, poPatternDuel, saPatternDuel⟩, na_PatternDuel_first := naPatternDuel0, na_PatternDuel_second := naPatternDuel1, mk_PatternDuel := ⟨mkPatternDuel, inPatternDuel, i25, kcPatternDuel⟩, me_PatternDuel_tasks_at := ⟨mePatternDueltasks_at, i26, k26⟩, b_Machine___init__ := BI, fn_gi := fgi, fn_le := fle, nf_Pattern := nfP, cf_Service := ⟨⟨pgService, hdService, poService, saService⟩, naService0, naService1, naService2, naService3, naService4, naService5⟩, cc_Service := ⟨o1Service, oE2, oE3, o4Service⟩, gi_Service := ⟨meService__getitem__, i20, k20⟩, bo_Service := ⟨meService__bool__, i23, k23⟩, ea_Service := ⟨meServiceends_at, i21, k21⟩, nq_Service := nqService, is_Service := isServiceMachine, cf_Pattern := ⟨⟨pgPattern, hdPattern, poPattern, saPattern⟩, naPattern0, naPattern1, naPattern2, naPattern3, naPattern4, naPattern5⟩, cc_Pattern := ⟨o1Pattern, oE2, oE3, o4Pattern⟩, gi_Pattern := ⟨mePattern__getitem__, i20, k20⟩, bo_Pattern := ⟨mePattern__bool__, i23, k23⟩, ea_Pattern := ⟨mePatternends_at, i21, k21⟩, nq_Pattern := nqPattern, is_Pattern := isPatternMachine }, rfl, rfl⟩
  refine ⟨d11, fun s v => ?_, fun base _ _ => ?_⟩
  · obtain ⟨_, _, _, _, _, _, _, _, _, z, _⟩ := F11.ex
    rw [z]
    exact .of_eq rfl
  have z := ok_law (P := l.prog) (w := w) (base := base) T
  rw [T1, T2] at z
  exact z
end K12

set_option Elab.async false
set_option linter.all false
set_option maxRecDepth 100000
set_option maxHeartbeats 2000000
namespace AE
open PySem PySem.Spec PyProof.Rows L2 He
theorem sup_z {K : PySem.W.Frag} {C f : Addr} {x qual file : Str} {st : Stmt} (e : fnZ K f = valZ x qual st ["__class__"]) (c : supB K C f qual file = true) : ∃ cc cda fd, SupFn K x qual st C f cc cda file fd := by
  obtain ⟨kp, c2⟩ := ba c
  unfold fnZ at e
  cases q : K.lookup f with
  | none =>
    rw [q] at c2
    cases c2
  | some o =>
    obtain ⟨oc, od, dt, osl⟩ := o
    rw [q] at c2 e
    cases dt with
    | func fd =>
      obtain ⟨n1, n2, n3, n4, n5, n6, n7, n8, n9, n10, n11, n12, n13, n14, n15⟩ := fd
      have e2 : (some (n1, n2, n3, n4, n5, n6, n7.map (·.1), n15) : FnZ) = valZ x qual st ["__class__"] := e
      unfold valZ at e2
      simp only [Option.some.injEq, Prod.mk.injEq] at e2
      obtain ⟨h1, h2, h3, h4, h5, h6, h7, h8⟩ := e2
      subst h1 h2 h3 h4 h5 h6 h8
      obtain ⟨k1, k2⟩ := ba c2
      obtain ⟨k3, k4⟩ := ba k1
      obtain ⟨k5, k6⟩ := ba k2
      dsimp only at k3 k4 k5 k6
      split at k5
      · rename_i z cc
        have ez : z = "__class__" := by
          have := List.cons.inj h7
          exact this.1
        subst ez
        split at k5
        · rename_i a1 a2 c' a3 qc
          have ec := of_decide_eq_true k5
          subst ec
          split at k6
          · rename_i cda
            split at k6
            · rename_i b1 b2 vs b3 qd
              obtain ⟨t', ev⟩ := isStrV_ok k6
              obtain rfl := isNon_ok k4
              exact ⟨cc, cda, _, ⟨oc, n9, n10, n11, n14, od, n12, osl, rfl, q⟩, k3, ⟨_, qc, rfl⟩, ⟨_, vs, t', qd, rfl, ev⟩, kp⟩
            · cases k6
          · cases k6
        · cases k5
      · cases k5
    | _ => cases c2
end AE

set_option Elab.async false
set_option linter.all false
set_option maxRecDepth 100000
set_option maxHeartbeats 4000000
namespace K12
open PySem PySem.Spec PyProof.Rows L2 Evl AE
theorem facts {w : World} {K : PySem.W.Frag} {h : Heap} {mg : Str → Option Value} {fa : Addr} (X : K.In h) (G : h.Ns mainGlobals mg) (hfa : mg ("law" : Str) = some (.ref fa)) (c : SaysZ exz fnz K) :
    ∃ fd : FuncData, (∀ (s : Shared) (v : Value), BindsTo s fd ⟨[v], []⟩ [("_law_script", v)]) ∧ ∀ base : Heap, K.In base → base.Ns mainGlobals mg → FnOk (PySem.Challenge.rw_askshanded_k12_patterns_compared).prog w K mg base CX0 12 fa fd ["_law_script"] (sp_law K) := by
  obtain ⟨d0, F0⟩ := plain_z (st := s__law_cell) (c.def_ 0 rfl) (allB_get (l := ex5 K) (i := 3) (c.fact 5 (b := allB (ex5 K)) rfl) rfl)
  obtain ⟨d1, F1⟩ := plain_z (st := s__law_draws) (c.def_ 1 rfl) (allB_get (l := ex5 K) (i := 4) (c.fact 5 (b := allB (ex5 K)) rfl) rfl)
  obtain ⟨d2, F2⟩ := plain_z (st := s__law_asks) (c.def_ 2 rfl) (allB_get (l := ex5 K) (i := 5) (c.fact 5 (b := allB (ex5 K)) rfl) rfl)
  obtain ⟨d3, F3⟩ := plain_z (st := s__law_marks) (c.def_ 3 rfl) (allB_get (l := ex5 K) (i := 6) (c.fact 5 (b := allB (ex5 K)) rfl) rfl)
  obtain ⟨d4, F4⟩ := plain_z (st := s__law_random) (c.def_ 4 rfl) (allB_get (l := ex5 K) (i := 7) (c.fact 5 (b := allB (ex5 K)) rfl) rfl)
  obtain ⟨d5, F5⟩ := plain_z (st := s__law_pairs) (c.def_ 5 rfl) (allB_get (l := ex5 K) (i := 8) (c.fact 5 (b := allB (ex5 K)) rfl) rfl)
  obtain ⟨d6, F6⟩ := plain_z (st := s__law_client) (c.def_ 6 rfl) (allB_get (l := ex5 K) (i := 9) (c.fact 5 (b := allB (ex5 K)) rfl) rfl)
  obtain ⟨d7, F7⟩ := plain_z (st := s__law_copied) (c.def_ 7 rfl) (allB_get (l := ex5 K) (i := 10) (c.fact 5 (b := allB (ex5 K)) rfl) rfl)
  obtain ⟨d8, F8⟩ := plain_z (st := s__law_strike) (c.def_ 8 rfl) (allB_get (l := ex5 K) (i := 11) (c.fact 5 (b := allB (ex5 K)) rfl) rfl)
  obtain ⟨d9, F9⟩ := plain_z (st := s__law_follows) (c.def_ 9 rfl) (allB_get (l := ex5 K) (i := 12) (c.fact 5 (b := allB (ex5 K)) rfl) rfl)
  obtain ⟨d10, F10⟩ := plain_z (st := s__law_compared) (c.def_ 10 rfl) (allB_get (l := ex5 K) (i := 13) (c.fact 5 (b := allB (ex5 K)) rfl) rfl)
  obtain ⟨d11, F11⟩ := plain_z (st := s_law) (c.def_ 11 rfl) (allB_get (l := ex5 K) (i := 14) (c.fact 5 (b := allB (ex5 K)) rfl) rfl)
  obtain ⟨d12, F12⟩ := plain_z (st := s_check_size) (c.def_ 12 rfl) (allB_get (l := ex5 K) (i := 15) (c.fact 5 (b := allB (ex5 K)) rfl) rfl)
  obtain ⟨d13, F13⟩ := plain_z (st := s_check_marks) (c.def_ 13 rfl) (allB_get (l := ex5 K) (i := 16) (c.fact 5 (b := allB (ex5 K)) rfl) rfl)
  obtain ⟨d14, F14⟩ := plain_z (st := s_check_steps) (c.def_ 14 rfl) (allB_get (l := ex5 K) (i := 17) (c.fact 5 (b := allB (ex5 K)) rfl) rfl)
  obtain ⟨d15, F15⟩ := plain_z (st := s_is_ask) (c.def_ 15 rfl) (allB_get (l := ex5 K) (i := 18) (c.fact 5 (b := allB (ex5 K)) rfl) rfl)
  obtain ⟨d16, F16⟩ := plain_z (st := s_ascending) (c.def_ 16 rfl) (allB_get (l := ex5 K) (i := 19) (c.fact 5 (b := allB (ex5 K)) rfl) rfl)
  obtain ⟨d17, F17⟩ := plain_z (st := s_ends_by_ask) (c.def_ 17 rfl) (allB_get (l := ex6 K) (i := 0) (c.fact 6 (b := allB (ex6 K)) rfl) rfl)
  obtain ⟨d18, F18⟩ := plain_z (st := s_pairs_by_state) (c.def_ 18 rfl) (allB_get (l := ex6 K) (i := 1) (c.fact 6 (b := allB (ex6 K)) rfl) rfl)
  obtain ⟨d19, F19⟩ := dfl_z (st := s_Machine___init__) (c.def_ 19 rfl) (allB_get (l := ex6 K) (i := 2) (c.fact 6 (b := allB (ex6 K)) rfl) rfl)
  obtain ⟨d20, F20⟩ := plain_z (st := s_Machine___getitem__) (c.def_ 20 rfl) (allB_get (l := ex6 K) (i := 3) (c.fact 6 (b := allB (ex6 K)) rfl) rfl)
  obtain ⟨d21, F21⟩ := plain_z (st := s_Machine_ends_at) (c.def_ 21 rfl) (allB_get (l := ex6 K) (i := 4) (c.fact 6 (b := allB (ex6 K)) rfl) rfl)
  obtain ⟨d22, F22⟩ := plain_z (st := s_Machine_pairs_at) (c.def_ 22 rfl) (allB_get (l := ex6 K) (i := 5) (c.fact 6 (b := allB (ex6 K)) rfl) rfl)
  obtain ⟨d23, F23⟩ := plain_z (st := s_Machine___bool__) (c.def_ 23 rfl) (allB_get (l := ex6 K) (i := 6) (c.fact 6 (b := allB (ex6 K)) rfl) rfl)
  obtain ⟨d24, F24⟩ := plain_z (st := s_Pattern___le__) (c.def_ 24 rfl) (allB_get (l := ex6 K) (i := 7) (c.fact 6 (b := allB (ex6 K)) rfl) rfl)
  obtain ⟨d25, F25⟩ := plain_z (st := s_PatternDuel___init__) (c.def_ 25 rfl) (allB_get (l := ex6 K) (i := 8) (c.fact 6 (b := allB (ex6 K)) rfl) rfl)
  obtain ⟨d26, F26⟩ := plain_z (st := s_PatternDuel_tasks_at) (c.def_ 26 rfl) (allB_get (l := ex6 K) (i := 9) (c.fact 6 (b := allB (ex6 K)) rfl) rfl)
  obtain ⟨d27, F27⟩ := plain_z (st := s_is_held) (c.def_ 27 rfl) (allB_get (l := ex6 K) (i := 10) (c.fact 6 (b := allB (ex6 K)) rfl) rfl)
  obtain ⟨d28, F28⟩ := plain_z (st := s_reached_tasks) (c.def_ 28 rfl) (allB_get (l := ex6 K) (i := 11) (c.fact 6 (b := allB (ex6 K)) rfl) rfl)
  obtain ⟨d29, F29⟩ := plain_z (st := s_beaten_places) (c.def_ 29 rfl) (allB_get (l := ex6 K) (i := 12) (c.fact 6 (b := allB (ex6 K)) rfl) rfl)
  obtain ⟨d30, F30⟩ := plain_z (st := s_option_uses) (c.def_ 30 rfl) (allB_get (l := ex6 K) (i := 13) (c.fact 6 (b := allB (ex6 K)) rfl) rfl)
  obtain ⟨tk_MOST_STATES, xMOST_STATES⟩ := intZ_ok (allB_get (l := ex6 K) (i := 14) (c.fact 6 (b := allB (ex6 K)) rfl) rfl)
  obtain ⟨tk_MOST_STEPS, xMOST_STEPS⟩ := intZ_ok (allB_get (l := ex6 K) (i := 15) (c.fact 6 (b := allB (ex6 K)) rfl) rfl)
  obtain ⟨tk_LONGEST_ASK, xLONGEST_ASK⟩ := intZ_ok (allB_get (l := ex6 K) (i := 16) (c.fact 6 (b := allB (ex6 K)) rfl) rfl)
  refine all_mk (l := PySem.Challenge.rw_askshanded_k12_patterns_compared) (w := w) (C_Machine := (He.ga K "Machine")) (C_Service := (He.ga K "Pattern")) (C_Pattern := (He.ga K "Pattern")) (C_PatternDuel := (He.ga K "PatternDuel")) (f0 := (He.ga K "_law_cell")) (f1 := (He.ga K "_law_draws")) (f2 := (He.ga K "_law_asks")) (f3 := (He.ga K "_law_marks")) (f4 := (He.ga K "_law_random")) (f5 := (He.ga K "_law_pairs")) (f6 := (He.ga K "_law_client")) (f7 := (He.ga K "_law_copied")) (f8 := (He.ga K "_law_strike")) (f9 := (He.ga K "_law_follows")) (f10 := (He.ga K "_law_compared")) (f11 := (He.ga K "law")) (f12 := (He.ga K "check_size")) (f13 := (He.ga K "check_marks")) (f14 := (He.ga K "check_steps")) (f15 := (He.ga K "is_ask")) (f16 := (He.ga K "ascending")) (f17 := (He.ga K "ends_by_ask")) (f18 := (He.ga K "pairs_by_state")) (f19 := (He.ma K (He.ga K "Machine") "__init__")) (f20 := (He.ma K (He.ga K "Machine") "__getitem__")) (f21 := (He.ma K (He.ga K "Machine") "ends_at")) (f22 := (He.ma K (He.ga K "Machine") "pairs_at")) (f23 := (He.ma K (He.ga K "Machine") "__bool__")) (f24 := (He.ma K (He.ga K "Pattern") "__le__")) (f25 := (He.ma K (He.ga K "PatternDuel") "__init__")) (f26 := (He.ma K (He.ga K "PatternDuel") "tasks_at")) (f27 := (He.ga K "is_held")) (f28 := (He.ga K "reached_tasks")) (f29 := (He.ga K "beaten_places")) (f30 := (He.ga K "option_uses")) X G hfa ?qMachine ?qService ?qPattern ?qPatternDuel ?a0 ?a1 ?a2 ?a3 ?a4 ?a5 ?a6 ?a7 ?a8 ?a9 ?a10 ?a11 ?a12 ?a13 ?a14 ?a15 ?a16 ?a17 ?a18 ?inService ?inPattern ?i19 ?meService__getitem__ ?mePattern__getitem__ ?i20 ?meServiceends_at ?mePatternends_at ?i21 ?mePatternpairs_at ?i22 ?meService__bool__ ?mePattern__bool__ ?i23 ?mePattern__le__ ?i24 ?inPatternDuel ?i25 ?mePatternDueltasks_at ?i26 ?a27 ?a28 ?a29 ?a30 ?n_len ?n_int ?n_range ?n_isinstance ?n_bool ?n_list ?n_tuple ?n_all ?n_sorted ?n_str ?n_enumerate ?pgService ?hdService ?poService ?saService ?naService0 ?naService1 ?naService2 ?naService3 ?naService4 ?naService5 ?mkService ?kcService ?isServiceMachine ?pgPattern ?hdPattern ?poPattern ?saPattern ?naPattern0 ?naPattern1 ?naPattern2 ?naPattern3 ?naPattern4 ?naPattern5 ?mkPattern ?kcPattern ?isPatternMachine ?pgPatternDuel ?hdPatternDuel ?poPatternDuel ?saPatternDuel ?naPatternDuel0 ?naPatternDuel1 ?mkPatternDuel ?kcPatternDuel ?fgi ?fle ?nfP ?oE2 ?oE3 ?o1Service ?o4Service ?nqService ?o1Pattern ?o4Pattern ?nqPattern F0 F1 F2 F3 F4 F5 F6 F7 F8 F9 F10 F11 F12 F13 F14 F15 F16 F17 F18 F19 F20 F21 F22 F23 F24 F25 F26 F27 F28 F29 F30 xMOST_STATES xMOST_STEPS xLONGEST_ASK
  case qMachine => exact of_decide_eq_true (allB_get (l := ex0 K) (i := 0) (c.fact 0 (b := allB (ex0 K)) rfl) rfl)
  case qService => exact of_decide_eq_true (allB_get (l := ex0 K) (i := 1) (c.fact 0 (b := allB (ex0 K)) rfl) rfl)
  case qPattern => exact of_decide_eq_true (allB_get (l := ex0 K) (i := 2) (c.fact 0 (b := allB (ex0 K)) rfl) rfl)
  case qPatternDuel => exact of_decide_eq_true (allB_get (l := ex0 K) (i := 3) (c.fact 0 (b := allB (ex0 K)) rfl) rfl)
  case a0 => exact of_decide_eq_true (allB_get (l := ex0 K) (i := 4) (c.fact 0 (b := allB (ex0 K)) rfl) rfl)
  case a1 => exact of_decide_eq_true (allB_get (l := ex0 K) (i := 5) (c.fact 0 (b := allB (ex0 K)) rfl) rfl)
  case a2 => exact of_decide_eq_true (allB_get (l := ex0 K) (i := 6) (c.fact 0 (b := allB (ex0 K)) rfl) rfl)
  case a3 => exact of_decide_eq_true (allB_get (l := ex0 K) (i := 7) (c.fact 0 (b := allB (ex0 K)) rfl) rfl)
  case a4 => exact of_decide_eq_true (allB_get (l := ex0 K) (i := 8) (c.fact 0 (b := allB (ex0 K)) rfl) rfl)
  case a5 => exact of_decide_eq_true (allB_get (l := ex0 K) (i := 9) (c.fact 0 (b := allB (ex0 K)) rfl) rfl)
  case a6 => exact of_decide_eq_true (allB_get (l := ex0 K) (i := 10) (c.fact 0 (b := allB (ex0 K)) rfl) rfl)
  case a7 => exact of_decide_eq_true (allB_get (l := ex0 K) (i := 11) (c.fact 0 (b := allB (ex0 K)) rfl) rfl)
  case a8 => exact of_decide_eq_true (allB_get (l := ex0 K) (i := 12) (c.fact 0 (b := allB (ex0 K)) rfl) rfl)
  case a9 => exact of_decide_eq_true (allB_get (l := ex0 K) (i := 13) (c.fact 0 (b := allB (ex0 K)) rfl) rfl)
  case a10 => exact of_decide_eq_true (allB_get (l := ex0 K) (i := 14) (c.fact 0 (b := allB (ex0 K)) rfl) rfl)
  case a11 => exact of_decide_eq_true (allB_get (l := ex0 K) (i := 15) (c.fact 0 (b := allB (ex0 K)) rfl) rfl)
  case a12 => exact of_decide_eq_true (allB_get (l := ex0 K) (i := 16) (c.fact 0 (b := allB (ex0 K)) rfl) rfl)
  case a13 => exact of_decide_eq_true (allB_get (l := ex0 K) (i := 17) (c.fact 0 (b := allB (ex0 K)) rfl) rfl)
  case a14 => exact of_decide_eq_true (allB_get (l := ex0 K) (i := 18) (c.fact 0 (b := allB (ex0 K)) rfl) rfl)
  case a15 => exact of_decide_eq_true (allB_get (l := ex0 K) (i := 19) (c.fact 0 (b := allB (ex0 K)) rfl) rfl)
  case a16 => exact of_decide_eq_true (allB_get (l := ex1 K) (i := 0) (c.fact 1 (b := allB (ex1 K)) rfl) rfl)
  case a17 => exact of_decide_eq_true (allB_get (l := ex1 K) (i := 1) (c.fact 1 (b := allB (ex1 K)) rfl) rfl)
  case a18 => exact of_decide_eq_true (allB_get (l := ex1 K) (i := 2) (c.fact 1 (b := allB (ex1 K)) rfl) rfl)
  case inService => exact of_decide_eq_true (allB_get (l := ex1 K) (i := 3) (c.fact 1 (b := allB (ex1 K)) rfl) rfl)
  case inPattern => exact of_decide_eq_true (allB_get (l := ex1 K) (i := 4) (c.fact 1 (b := allB (ex1 K)) rfl) rfl)
  case i19 => exact (allB_get (l := ex1 K) (i := 5) (c.fact 1 (b := allB (ex1 K)) rfl) rfl)
  case meService__getitem__ => exact of_decide_eq_true (allB_get (l := ex1 K) (i := 6) (c.fact 1 (b := allB (ex1 K)) rfl) rfl)
  case mePattern__getitem__ => exact of_decide_eq_true (allB_get (l := ex1 K) (i := 7) (c.fact 1 (b := allB (ex1 K)) rfl) rfl)
  case i20 => exact (allB_get (l := ex1 K) (i := 8) (c.fact 1 (b := allB (ex1 K)) rfl) rfl)
  case meServiceends_at => exact of_decide_eq_true (allB_get (l := ex1 K) (i := 9) (c.fact 1 (b := allB (ex1 K)) rfl) rfl)
  case mePatternends_at => exact of_decide_eq_true (allB_get (l := ex1 K) (i := 10) (c.fact 1 (b := allB (ex1 K)) rfl) rfl)
  case i21 => exact (allB_get (l := ex1 K) (i := 11) (c.fact 1 (b := allB (ex1 K)) rfl) rfl)
  case mePatternpairs_at => exact of_decide_eq_true (allB_get (l := ex1 K) (i := 12) (c.fact 1 (b := allB (ex1 K)) rfl) rfl)
  case i22 => exact (allB_get (l := ex1 K) (i := 13) (c.fact 1 (b := allB (ex1 K)) rfl) rfl)
  case meService__bool__ => exact of_decide_eq_true (allB_get (l := ex1 K) (i := 14) (c.fact 1 (b := allB (ex1 K)) rfl) rfl)
  case mePattern__bool__ => exact of_decide_eq_true (allB_get (l := ex1 K) (i := 15) (c.fact 1 (b := allB (ex1 K)) rfl) rfl)
  case i23 => exact (allB_get (l := ex1 K) (i := 16) (c.fact 1 (b := allB (ex1 K)) rfl) rfl)
  case mePattern__le__ => exact of_decide_eq_true (allB_get (l := ex1 K) (i := 17) (c.fact 1 (b := allB (ex1 K)) rfl) rfl)
  case i24 => exact (allB_get (l := ex1 K) (i := 18) (c.fact 1 (b := allB (ex1 K)) rfl) rfl)
  case inPatternDuel => exact of_decide_eq_true (allB_get (l := ex1 K) (i := 19) (c.fact 1 (b := allB (ex1 K)) rfl) rfl)
  case i25 => exact (allB_get (l := ex2 K) (i := 0) (c.fact 2 (b := allB (ex2 K)) rfl) rfl)
  case mePatternDueltasks_at => exact of_decide_eq_true (allB_get (l := ex2 K) (i := 1) (c.fact 2 (b := allB (ex2 K)) rfl) rfl)
  case i26 => exact (allB_get (l := ex2 K) (i := 2) (c.fact 2 (b := allB (ex2 K)) rfl) rfl)
  case a27 => exact of_decide_eq_true (allB_get (l := ex2 K) (i := 3) (c.fact 2 (b := allB (ex2 K)) rfl) rfl)
  case a28 => exact of_decide_eq_true (allB_get (l := ex2 K) (i := 4) (c.fact 2 (b := allB (ex2 K)) rfl) rfl)
  case a29 => exact of_decide_eq_true (allB_get (l := ex2 K) (i := 5) (c.fact 2 (b := allB (ex2 K)) rfl) rfl)
  case a30 => exact of_decide_eq_true (allB_get (l := ex2 K) (i := 6) (c.fact 2 (b := allB (ex2 K)) rfl) rfl)
  case n_len => exact of_decide_eq_true (allB_get (l := ex2 K) (i := 7) (c.fact 2 (b := allB (ex2 K)) rfl) rfl)
  case n_int => exact of_decide_eq_true (allB_get (l := ex2 K) (i := 8) (c.fact 2 (b := allB (ex2 K)) rfl) rfl)
  case n_range => exact of_decide_eq_true (allB_get (l := ex2 K) (i := 9) (c.fact 2 (b := allB (ex2 K)) rfl) rfl)
  case n_isinstance => exact of_decide_eq_true (allB_get (l := ex2 K) (i := 10) (c.fact 2 (b := allB (ex2 K)) rfl) rfl)
  case n_bool => exact of_decide_eq_true (allB_get (l := ex2 K) (i := 11) (c.fact 2 (b := allB (ex2 K)) rfl) rfl)
  case n_list => exact of_decide_eq_true (allB_get (l := ex2 K) (i := 12) (c.fact 2 (b := allB (ex2 K)) rfl) rfl)
  case n_tuple => exact of_decide_eq_true (allB_get (l := ex2 K) (i := 13) (c.fact 2 (b := allB (ex2 K)) rfl) rfl)
  case n_all => exact of_decide_eq_true (allB_get (l := ex2 K) (i := 14) (c.fact 2 (b := allB (ex2 K)) rfl) rfl)
  case n_sorted => exact of_decide_eq_true (allB_get (l := ex2 K) (i := 15) (c.fact 2 (b := allB (ex2 K)) rfl) rfl)
  case n_str => exact of_decide_eq_true (allB_get (l := ex2 K) (i := 16) (c.fact 2 (b := allB (ex2 K)) rfl) rfl)
  case n_enumerate => exact of_decide_eq_true (allB_get (l := ex2 K) (i := 17) (c.fact 2 (b := allB (ex2 K)) rfl) rfl)
  case pgService => exact (allB_get (l := ex2 K) (i := 18) (c.fact 2 (b := allB (ex2 K)) rfl) rfl)
  case hdService => exact (allB_get (l := ex2 K) (i := 19) (c.fact 2 (b := allB (ex2 K)) rfl) rfl)
  case poService => exact (allB_get (l := ex3 K) (i := 0) (c.fact 3 (b := allB (ex3 K)) rfl) rfl)
  case saService => exact of_decide_eq_true (allB_get (l := ex3 K) (i := 1) (c.fact 3 (b := allB (ex3 K)) rfl) rfl)
  case naService0 => exact of_decide_eq_true (allB_get (l := ex3 K) (i := 2) (c.fact 3 (b := allB (ex3 K)) rfl) rfl)
  case naService1 => exact of_decide_eq_true (allB_get (l := ex3 K) (i := 3) (c.fact 3 (b := allB (ex3 K)) rfl) rfl)
  case naService2 => exact of_decide_eq_true (allB_get (l := ex3 K) (i := 4) (c.fact 3 (b := allB (ex3 K)) rfl) rfl)
  case naService3 => exact of_decide_eq_true (allB_get (l := ex3 K) (i := 5) (c.fact 3 (b := allB (ex3 K)) rfl) rfl)
  case naService4 => exact of_decide_eq_true (allB_get (l := ex3 K) (i := 6) (c.fact 3 (b := allB (ex3 K)) rfl) rfl)
  case naService5 => exact of_decide_eq_true (allB_get (l := ex3 K) (i := 7) (c.fact 3 (b := allB (ex3 K)) rfl) rfl)
  case mkService => exact (allB_get (l := ex3 K) (i := 8) (c.fact 3 (b := allB (ex3 K)) rfl) rfl)
  case kcService => exact (allB_get (l := ex3 K) (i := 9) (c.fact 3 (b := allB (ex3 K)) rfl) rfl)
  case isServiceMachine => exact of_decide_eq_true (allB_get (l := ex3 K) (i := 10) (c.fact 3 (b := allB (ex3 K)) rfl) rfl)
  case pgPattern => exact (allB_get (l := ex3 K) (i := 11) (c.fact 3 (b := allB (ex3 K)) rfl) rfl)
  case hdPattern => exact (allB_get (l := ex3 K) (i := 12) (c.fact 3 (b := allB (ex3 K)) rfl) rfl)
  case poPattern => exact (allB_get (l := ex3 K) (i := 13) (c.fact 3 (b := allB (ex3 K)) rfl) rfl)
  case saPattern => exact of_decide_eq_true (allB_get (l := ex3 K) (i := 14) (c.fact 3 (b := allB (ex3 K)) rfl) rfl)
  case naPattern0 => exact of_decide_eq_true (allB_get (l := ex3 K) (i := 15) (c.fact 3 (b := allB (ex3 K)) rfl) rfl)
  case naPattern1 => exact of_decide_eq_true (allB_get (l := ex3 K) (i := 16) (c.fact 3 (b := allB (ex3 K)) rfl) rfl)
  case naPattern2 => exact of_decide_eq_true (allB_get (l := ex3 K) (i := 17) (c.fact 3 (b := allB (ex3 K)) rfl) rfl)
  case naPattern3 => exact of_decide_eq_true (allB_get (l := ex3 K) (i := 18) (c.fact 3 (b := allB (ex3 K)) rfl) rfl)
  case naPattern4 => exact of_decide_eq_true (allB_get (l := ex3 K) (i := 19) (c.fact 3 (b := allB (ex3 K)) rfl) rfl)
  case naPattern5 => exact of_decide_eq_true (allB_get (l := ex4 K) (i := 0) (c.fact 4 (b := allB (ex4 K)) rfl) rfl)
  case mkPattern => exact (allB_get (l := ex4 K) (i := 1) (c.fact 4 (b := allB (ex4 K)) rfl) rfl)
  case kcPattern => exact (allB_get (l := ex4 K) (i := 2) (c.fact 4 (b := allB (ex4 K)) rfl) rfl)
  case isPatternMachine => exact of_decide_eq_true (allB_get (l := ex4 K) (i := 3) (c.fact 4 (b := allB (ex4 K)) rfl) rfl)
  case pgPatternDuel => exact (allB_get (l := ex4 K) (i := 4) (c.fact 4 (b := allB (ex4 K)) rfl) rfl)
  case hdPatternDuel => exact (allB_get (l := ex4 K) (i := 5) (c.fact 4 (b := allB (ex4 K)) rfl) rfl)
  case poPatternDuel => exact (allB_get (l := ex4 K) (i := 6) (c.fact 4 (b := allB (ex4 K)) rfl) rfl)
  case saPatternDuel => exact of_decide_eq_true (allB_get (l := ex4 K) (i := 7) (c.fact 4 (b := allB (ex4 K)) rfl) rfl)
  case naPatternDuel0 => exact of_decide_eq_true (allB_get (l := ex4 K) (i := 8) (c.fact 4 (b := allB (ex4 K)) rfl) rfl)
  case naPatternDuel1 => exact of_decide_eq_true (allB_get (l := ex4 K) (i := 9) (c.fact 4 (b := allB (ex4 K)) rfl) rfl)
  case mkPatternDuel => exact (allB_get (l := ex4 K) (i := 10) (c.fact 4 (b := allB (ex4 K)) rfl) rfl)
  case kcPatternDuel => exact (allB_get (l := ex4 K) (i := 11) (c.fact 4 (b := allB (ex4 K)) rfl) rfl)
  case fgi => exact (allB_get (l := ex4 K) (i := 12) (c.fact 4 (b := allB (ex4 K)) rfl) rfl)
  case fle => exact (allB_get (l := ex4 K) (i := 13) (c.fact 4 (b := allB (ex4 K)) rfl) rfl)
  case nfP => exact (allB_get (l := ex4 K) (i := 14) (c.fact 4 (b := allB (ex4 K)) rfl) rfl)
  case oE2 => exact of_decide_eq_true (allB_get (l := ex4 K) (i := 15) (c.fact 4 (b := allB (ex4 K)) rfl) rfl)
  case oE3 => exact of_decide_eq_true (allB_get (l := ex4 K) (i := 16) (c.fact 4 (b := allB (ex4 K)) rfl) rfl)
  case o1Service => exact of_decide_eq_true (allB_get (l := ex4 K) (i := 17) (c.fact 4 (b := allB (ex4 K)) rfl) rfl)
  case o4Service => exact of_decide_eq_true (allB_get (l := ex4 K) (i := 18) (c.fact 4 (b := allB (ex4 K)) rfl) rfl)
  case nqService => exact (allB_get (l := ex4 K) (i := 19) (c.fact 4 (b := allB (ex4 K)) rfl) rfl)
  case o1Pattern => exact of_decide_eq_true (allB_get (l := ex5 K) (i := 0) (c.fact 5 (b := allB (ex5 K)) rfl) rfl)
  case o4Pattern => exact of_decide_eq_true (allB_get (l := ex5 K) (i := 1) (c.fact 5 (b := allB (ex5 K)) rfl) rfl)
  case nqPattern => exact (allB_get (l := ex5 K) (i := 2) (c.fact 5 (b := allB (ex5 K)) rfl) rfl)
end K12
open PySem PySem.W PySem.Calls PyProof.Rows
set_option maxRecDepth 100000 in
set_option maxHeartbeats 0 in
theorem PySem.Challenge.cw_askshanded_k12_patterns_compared_holds : PySem.Challenge.rw_askshanded_k12_patterns_compared.Holds := by
  w_on; o_law
  refine HandSHeadRun.head_any (r := OpenLaw.row PySem.Challenge.rw_askshanded_k12_patterns_compared) (q := view (OpenLaw.row PySem.Challenge.rw_askshanded_k12_patterns_compared).prog [38]) (H := K12.hk) (ob := K12.ob) (M := 15000) (loose := K12.names) (d := HandSHeadRun.topDef (OpenLaw.row PySem.Challenge.rw_askshanded_k12_patterns_compared).prog 38) (kwd := []) K12.ob_eq
    (by kernel_rfl) (fun s => by kernel_rfl) K12.run (by kernel_rfl) (by kernel_rfl) (by kernel_rfl) (by rfl) (by first | assumption | decide +kernel) (by decide +kernel) ⟨rfl, rfl, rfl, rfl, rfl, by decide +kernel⟩ ?hw ?hc
  case hw => w_witness2
  case hc =>
    refine L2.walk_ofE (l := PySem.Challenge.rw_askshanded_k12_patterns_compared) (n := 63) (k := 12) (x := "_law_script") (CX := L2.CX0) rfl (by decide) (by kernel_rfl) ⟨rfl, by decide, by decide⟩ ?F (fun _ _ _ _ z => z)
    intro w mg fa h Y G hmg0
    obtain ⟨K, KX, c⟩ := Y
    have hmg : mg ("law" : PySem.Str) = some (.ref fa) := by
      have e : (HandSHeadRun.topDef (OpenLaw.row PySem.Challenge.rw_askshanded_k12_patterns_compared).prog 38).name = ("law" : PySem.Str) := by kernel_rfl
      rw [← e]
      exact hmg0
    obtain ⟨fd, hb, hF⟩ := K12.facts (w := w) KX G hmg c
    exact ⟨K, fd, K12.sp_law K, KX, hb, fun H a ns hl _ hS => ⟨a, ns, rfl, hS, fun _ => rfl⟩, hF⟩
