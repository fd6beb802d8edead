import PyProof.Rows.All
import Wide.All
import OpenK.AllK
import Wide.FinOn
import HandS.ForMost
import HandS.Wide
import HandS.IsInst
import HandS.Style
import HandS.Codes
import HandS.Walk
import HandS.ExcInit
import HandS.WordsExc
import HandS.TupMul
import HandS.TupAny
import HandS.More
import KE.GoesMore
import KE.GoesEnum
import KE.KExcIs
import HandS.ExcIs
import HandS.ExcOwn
import PyProof.ListStr
import HandS.DictComp
import HandS.ClsMeth
import HandS.ExcValue
import PySem.Challenge.RW_earlyfields_k15_errors_by_hand
import HandS.Head0
import HandS.Head1
import HandS.Head2
import HandS.HeadHook1
import HandS.HeadHook2
import HandS.Set
import HandS.SetTxt0
import HandS.Star
import HandS.MethStar
import PyProof.WalksS
import KE.KCallOwn
import HandS.TryOnly
import KE.KExcInit
set_option Elab.async false
set_option linter.all false
set_option maxRecDepth 100000
set_option maxHeartbeats 4000000
namespace Kn
open PySem PySem.Spec PyProof.Rows L2
open C8 (Cal pe_c pe_gc)
open SX (S S_tl S_len S_cat)
/-! ### M38. the head by facts: one kernel run, what it left looked at by a Hook -/
/-- a def of the top, a class's method: where it stands, its names, its statement -/
structure DefS where
  at_ : PySem.W.Frag → Addr
  name : Str
  qual : Str
  st : Stmt
def fnX (K : PySem.W.Frag) (a : Addr) : He.FnW := match K.lookup a with
  | some ⟨_, _, .func fd, _⟩ => some (fd.name, fd.qualname, fd.params, fd.body, fd.scope, fd.globals, fd.closure, fd.builtins)
  | _ => none
def DefS.val (d : DefS) : He.FnW := some (d.name, d.qual, defArgs d.st, .stmts (defBody d.st), defScope d.st, mainGlobals, [], builtinsNs)
def DefS.ok (K : PySem.W.Frag) (d : DefS) : Bool := PySem.W.keepIn K (.ref (d.at_ K)) && (match K.lookup (d.at_ K) with
  | some ⟨_, _, .func fd, _⟩ => PySem.W.codeIn K fd.code d.qual && decide (fd.defaults = .none)
  | _ => false)
theorem DefS.fun {K : PySem.W.Frag} {d : DefS} (e : fnX K (d.at_ K) = d.val) (c : d.ok K = true) : ∃ fd, Fun K d.name d.qual d.st (d.at_ K) fd := by
  obtain ⟨kp, c2⟩ := Bool.and_eq_true_iff.mp c
  unfold fnX at e
  cases q : K.lookup (d.at_ K) with
  | none => rw [q] at c2; cases c2
  | some o =>
    obtain ⟨oc, od, dt, sl⟩ := o
    rw [q] at c2 e
    cases dt with
    | func fd =>
      obtain ⟨n1, n2, n3, n4, n5, n6, n7, n8, n9, n10, n11, n12, n13, n14, n15⟩ := fd
      have e2 : (some (n1, n2, n3, n4, n5, n6, n7, n15) : He.FnW) = some (d.name, d.qual, defArgs d.st, .stmts (defBody d.st), defScope d.st, mainGlobals, [], builtinsNs) := e
      simp only [Option.some.injEq, Prod.mk.injEq] at e2
      obtain ⟨h1, h2, h3, h4, h5, h6, h7, h8⟩ := e2
      subst h1 h2 h3 h4 h5 h6 h7 h8
      obtain ⟨k1, k2⟩ := Bool.and_eq_true_iff.mp (show (PySem.W.codeIn K n13 d.qual && decide (n8 = .none)) = true from c2)
      have k3 : n8 = .none := of_decide_eq_true k2
      subst k3
      exact ⟨_, ⟨oc, od, n9, n10, n11, n12, n13, n14, sl, rfl, q, k1⟩, kp⟩
    | _ => cases c2
/-- an own error's class -/
def excB (K : PySem.W.Frag) (C : Addr) : Bool := match K.lookup C with
  | some ⟨.type c, _, .cls ⟨_, _, m, _, _, hd, _, _, _, _, del⟩, ⟨[_, _, _, _, some (.builtin n), _]⟩⟩ => decide (c = "type") && ((match m with
    | .ref C' :: bm => decide (C' = C) && PySem.HandSPX.refsVE bm
    | _ => false) && (hd && (!del && decide (n = "ValueError.__new__"))))
  | _ => false
theorem excB_ok {K : PySem.W.Frag} {C : Addr} (h : excB K C = true) : ∃ nm q N bs bm sn sub ab col dd k0 k1 k2 k3 k5, K.lookup C = some (excClassObj nm q C N bs bm true sn sub ab col dd k0 k1 k2 k3 k5 "ValueError.__new__") ∧ PySem.HandSPX.refsVE bm = true := by
  unfold excB at h
  split at h
  · rename_i c dd nm bs m N q hd sn sub ab col del k0 k1 k2 k3 n k5 e
    obtain ⟨h1, h⟩ := Bool.and_eq_true_iff.mp h
    obtain ⟨h2, h⟩ := Bool.and_eq_true_iff.mp h
    obtain ⟨h3, h⟩ := Bool.and_eq_true_iff.mp h
    obtain ⟨h4, h5⟩ := Bool.and_eq_true_iff.mp h
    have h1 := of_decide_eq_true h1
    have h5 := of_decide_eq_true h5
    subst h1 h5 h3
    have h4 : del = false := by cases del <;> first | rfl | cases h4
    subst h4
    split at h2
    · rename_i C' bm _
      obtain ⟨h6, h7⟩ := Bool.and_eq_true_iff.mp h2
      have h6 := of_decide_eq_true h6
      subst h6
      exact ⟨nm, q, N, bs, bm, sn, sub, ab, col, dd, k0, k1, k2, k3, k5, e, h7⟩
    · cases h2
  · cases h
/-- an int in a class's place -/
def cvB (K : PySem.W.Frag) (C : Addr) (f : Str) (i : Int) : Bool := match PySem.W.findCls K (.ref C) (.type "type") f with
  | some (.val (.int j _)) => decide (j = i)
  | _ => false
theorem cvB_ok {K : PySem.W.Frag} {C : Addr} {f : Str} {i : Int} (h : cvB K C f i = true) : ∃ u, ClX.CVal K C (.type "type") f (.int i) u := by
  unfold cvB at h
  split at h
  · rename_i j t e
    have := of_decide_eq_true h
    subst this
    exact ⟨_, e, ⟨t, rfl⟩⟩
  · cases h
/-- a classmethod: its record, its def -/
def cfA (K : PySem.W.Frag) (C : Addr) (m : Str) : Addr := match PySem.W.findCls K (.ref C) (.type "type") m with
  | some (.get _ (.ref p) _ _) => p
  | _ => 0
def cgA (K : PySem.W.Frag) (p : Addr) : Addr := match PySem.W.recIn K p "classmethod" with
  | some (.ref g :: _) => g
  | _ => 0
def cmB (K : PySem.W.Frag) (C : Addr) (m : Str) : Bool := (match PySem.W.findCls K (.ref C) (.type "type") m with
  | some (.get (.builtin n) (.ref _) .none (.ref C')) => decide (n = "classmethod.__get__") && decide (C' = C)
  | _ => false) && ((match PySem.W.recIn K (cfA K C m) "classmethod" with
  | some (.ref _ :: _) => true
  | _ => false) && PySem.W.fnIn K (cgA K (cfA K C m)))
theorem cmB_ok {K : PySem.W.Frag} {C : Addr} {m : Str} (h : cmB K C m = true) : ClX.CMet K C (.type "type") m (cfA K C m) (cgA K (cfA K C m)) := by
  unfold cmB at h
  obtain ⟨h1, h⟩ := Bool.and_eq_true_iff.mp h
  obtain ⟨h2, h3⟩ := Bool.and_eq_true_iff.mp h
  split at h1
  · rename_i n p C' e
    obtain ⟨h4, h5⟩ := Bool.and_eq_true_iff.mp h1
    have h4 := of_decide_eq_true h4
    have h5 := of_decide_eq_true h5
    subst h4 h5
    have ep : cfA K C' m = p := by unfold cfA; rw [e]
    rw [ep] at h2 h3 ⊢
    split at h2
    · rename_i g rest e2
      have eg : cgA K p = g := by unfold cgA; rw [e2]
      rw [eg] at h3 ⊢
      exact ⟨e, ⟨rest, e2⟩, h3⟩
    · cases h2
  · cases h1
structure SaysK (fn : List DefS) (bs : List (PySem.W.Frag → Bool)) (K : PySem.W.Frag) : Prop where
  fns : fn.map (fun d => fnX K (d.at_ K)) = fn.map DefS.val
  more : ∀ b ∈ bs, b K = true
abbrev AlK : Type := List He.FnW × List Bool
def obsK (fn : List DefS) (bs : List (PySem.W.Frag → Bool)) (K : PySem.W.Frag) : AlK := (fn.map fun d => fnX K (d.at_ K), bs.map fun b => b K)
def frK (n : List Addr) (g : Addr → Option Obj) : PySem.W.Frag := He.frG g n
def valK (fn : List DefS) (bs : List (PySem.W.Frag → Bool)) : AlK := (fn.map DefS.val, bs.map fun _ => true)
theorem saysK_of {fn : List DefS} {bs : List (PySem.W.Frag → Bool)} {K : PySem.W.Frag} (e : obsK fn bs K = valK fn bs) : SaysK fn bs K := by
  refine ⟨congrArg (fun z : AlK => z.1) e, fun b hb => ?_⟩
  have e2 : bs.map (fun b => b K) = bs.map fun _ => true := congrArg (fun z : AlK => z.2) e
  obtain ⟨i, hi, rfl⟩ := List.mem_iff_getElem.mp hb
  have e3 : (bs.map fun b => b K)[i]? = (bs.map fun _ => true)[i]? := by rw [e2]
  rw [List.getElem?_map, List.getElem?_map, List.getElem?_eq_getElem hi] at e3
  exact Option.some.inj e3
def hookK (n : List Addr) (fn : List DefS) (bs : List (PySem.W.Frag → Bool)) : PySem.W.Hook where
  α := AlK
  obs := fun s => obsK fn bs (frK n s.heap.get?)
  val := fun _ => valK fn bs
  says := fun _ h => ∃ K : PySem.W.Frag, K.In h ∧ SaysK fn bs K
  of := fun _ _ e => ⟨_, He.frG_in, saysK_of e⟩
  keeps := fun _ _ _ ⟨K, hK, c⟩ k => ⟨K, PySem.W.Frag.In.keeps hK k, c⟩
theorem obsK_eq {n : List Addr} {fn : List DefS} {bs : List (PySem.W.Frag → Bool)} {g : Addr → Option Obj} {s : Shared} (h : ∀ a, g a = s.heap.get? a) : obsK fn bs (frK n g) = (hookK n fn bs).obs s := by
  have e : g = s.heap.get? := funext h
  rw [e]; rfl
/-- the run, looked at part by part -/
theorem run_join {α β γ : Type} {x : Option α} {l : α → Bool} {m : α → β} {g : β} {o : α → γ} {v : γ} {κ : α → PySem.W.Frag} {bs : List (PySem.W.Frag → Bool)} (h0 : x.map (fun s => (l s, m s, o s)) = some (true, g, v)) (hb : ∀ b ∈ bs, x.map (fun s => b (κ s)) = some true) :
    x.map (fun s => (l s, m s, (o s, bs.map fun b => b (κ s)))) = some (true, g, (v, bs.map fun _ => true)) := by
  cases x with
  | none => cases h0
  | some s =>
    have e1 : (l s, m s, o s) = (true, g, v) := Option.some.inj h0
    injection e1 with e2 e3
    injection e3 with e4 e5
    show some (l s, m s, (o s, bs.map fun b => b (κ s))) = _
    rw [e2, e4, e5]
    have : (bs.map fun b => b (κ s)) = bs.map fun _ => true := List.map_congr_left fun b hb' => Option.some.inj (hb b hb')
    rw [this]
theorem SaysK.fun {fn : List DefS} {bs : List (PySem.W.Frag → Bool)} {K : PySem.W.Frag} (c : SaysK fn bs K) (h0 : (fn.all fun d => d.ok K) = true) (i : Nat) {d : DefS} (h : fn[i]? = some d) : ∃ fd, Fun K d.name d.qual d.st (d.at_ K) fd := by
  have e2 : (fn.map fun d => fnX K (d.at_ K))[i]? = (fn.map DefS.val)[i]? := by rw [c.fns]
  rw [List.getElem?_map, List.getElem?_map, h] at e2
  exact DefS.fun (Option.some.inj e2) (List.all_eq_true.mp h0 d (List.mem_of_getElem? h))
theorem nthB {l : List Bool} (h : l.all (fun b => b) = true) (i : Nat) {b : Bool} (e : l[i]? = some b) : b = true := List.all_eq_true.mp h b (List.mem_of_getElem? e)
theorem nthP {l : List Bool} (h : l.all (fun b => b) = true) (i : Nat) {p : Prop} [d : Decidable p] (e : l[i]? = some (decide p)) : p := of_decide_eq_true (nthB h i e)

def top (i : Nat) : Stmt := PySem.Challenge.pw_earlyfields_k15_errors_by_hand.main.body.getD i (.Pass ⟨0, 0, 0, 0⟩)
abbrev s_BadText___init__ : Stmt := (inClass (top 2) 0)
theorem sc_BadText___init__ : FnScope ["self", "at"] ["self", "at"] (defScope s_BadText___init__) := ⟨rfl, rfl, rfl, by decide +kernel, rfl, by decide +kernel, by decide +kernel⟩
abbrev s_TooMany___init__ : Stmt := (inClass (top 3) 0)
theorem sc_TooMany___init__ : FnScope ["self", "what"] ["self", "what"] (defScope s_TooMany___init__) := ⟨rfl, rfl, rfl, by decide +kernel, rfl, by decide +kernel, by decide +kernel⟩
abbrev s_Twice___init__ : Stmt := (inClass (top 4) 0)
theorem sc_Twice___init__ : FnScope ["self", "name"] ["self", "name"] (defScope s_Twice___init__) := ⟨rfl, rfl, rfl, by decide +kernel, rfl, by decide +kernel, by decide +kernel⟩
abbrev s_NoClass___init__ : Stmt := (inClass (top 5) 0)
theorem sc_NoClass___init__ : FnScope ["self", "name"] ["self", "name"] (defScope s_NoClass___init__) := ⟨rfl, rfl, rfl, by decide +kernel, rfl, by decide +kernel, by decide +kernel⟩
abbrev s_NoOrder___init__ : Stmt := (inClass (top 6) 0)
theorem sc_NoOrder___init__ : FnScope ["self", "name"] ["self", "name"] (defScope s_NoOrder___init__) := ⟨rfl, rfl, rfl, by decide +kernel, rfl, by decide +kernel, by decide +kernel⟩
abbrev s_NotABase___init__ : Stmt := (inClass (top 7) 0)
theorem sc_NotABase___init__ : FnScope ["self", "owner", "key", "path"] ["self", "owner", "key", "path"] (defScope s_NotABase___init__) := ⟨rfl, rfl, rfl, by decide +kernel, rfl, by decide +kernel, by decide +kernel⟩
abbrev s_Final___init__ : Stmt := (inClass (top 8) 0)
theorem sc_Final___init__ : FnScope ["self", "name", "key"] ["self", "name", "key"] (defScope s_Final___init__) := ⟨rfl, rfl, rfl, by decide +kernel, rfl, by decide +kernel, by decide +kernel⟩
abbrev s_NotChained___init__ : Stmt := (inClass (top 9) 0)
theorem sc_NotChained___init__ : FnScope ["self", "name", "key"] ["self", "name", "key"] (defScope s_NotChained___init__) := ⟨rfl, rfl, rfl, by decide +kernel, rfl, by decide +kernel, by decide +kernel⟩
abbrev s_NotLawful___init__ : Stmt := (inClass (top 10) 0)
theorem sc_NotLawful___init__ : FnScope ["self", "owner", "key", "path"] ["self", "owner", "key", "path"] (defScope s_NotLawful___init__) := ⟨rfl, rfl, rfl, by decide +kernel, rfl, by decide +kernel, by decide +kernel⟩
abbrev s_BadKey___init__ : Stmt := (inClass (top 11) 0)
theorem sc_BadKey___init__ : FnScope ["self", "key"] ["self", "key"] (defScope s_BadKey___init__) := ⟨rfl, rfl, rfl, by decide +kernel, rfl, by decide +kernel, by decide +kernel⟩
abbrev s_BadName___init__ : Stmt := (inClass (top 12) 0)
theorem sc_BadName___init__ : FnScope ["self", "name"] ["self", "name"] (defScope s_BadName___init__) := ⟨rfl, rfl, rfl, by decide +kernel, rfl, by decide +kernel, by decide +kernel⟩
abbrev s_BadOrder___init__ : Stmt := (inClass (top 13) 0)
theorem sc_BadOrder___init__ : FnScope ["self", "value"] ["self", "value"] (defScope s_BadOrder___init__) := ⟨rfl, rfl, rfl, by decide +kernel, rfl, by decide +kernel, by decide +kernel⟩
abbrev s_BadDeed___init__ : Stmt := (inClass (top 14) 0)
theorem sc_BadDeed___init__ : FnScope ["self", "at"] ["self", "at"] (defScope s_BadDeed___init__) := ⟨rfl, rfl, rfl, by decide +kernel, rfl, by decide +kernel, by decide +kernel⟩
abbrev s_BadLimit___init__ : Stmt := (inClass (top 15) 0)
theorem sc_BadLimit___init__ : FnScope ["self", "value"] ["self", "value"] (defScope s_BadLimit___init__) := ⟨rfl, rfl, rfl, by decide +kernel, rfl, by decide +kernel, by decide +kernel⟩
abbrev s_Far___init__ : Stmt := (inClass (top 16) 0)
theorem sc_Far___init__ : FnScope ["self", "steps"] ["self", "steps"] (defScope s_Far___init__) := ⟨rfl, rfl, rfl, by decide +kernel, rfl, by decide +kernel, by decide +kernel⟩
abbrev s_Gap___init__ : Stmt := (inClass (top 17) 0)
theorem sc_Gap___init__ : FnScope ["self", "name", "owner", "key", "path"] ["self", "name", "owner", "key", "path"] (defScope s_Gap___init__) := ⟨rfl, rfl, rfl, by decide +kernel, rfl, by decide +kernel, by decide +kernel⟩
abbrev s_Long___init__ : Stmt := (inClass (top 18) 0)
theorem sc_Long___init__ : FnScope ["self", "most"] ["self", "most"] (defScope s_Long___init__) := ⟨rfl, rfl, rfl, by decide +kernel, rfl, by decide +kernel, by decide +kernel⟩
abbrev s_NoEnd___init__ : Stmt := (inClass (top 20) 0)
theorem sc_NoEnd___init__ : FnScope ["self", "end"] ["self", "end"] (defScope s_NoEnd___init__) := ⟨rfl, rfl, rfl, by decide +kernel, rfl, by decide +kernel, by decide +kernel⟩
abbrev s__law_bag : Stmt := (top 22)
theorem sc__law_bag : FnScope ["script", "at", "cell", "seed", "turn", "each"] ["script", "at"] (defScope s__law_bag) := ⟨rfl, rfl, rfl, by decide +kernel, rfl, by decide +kernel, by decide +kernel⟩
abbrev s__law_draw : Stmt := (top 23)
theorem sc__law_draw : FnScope ["bag", "many", "digit"] ["bag", "many"] (defScope s__law_draw) := ⟨rfl, rfl, rfl, by decide +kernel, rfl, by decide +kernel, by decide +kernel⟩
abbrev s__law_one : Stmt := (top 24)
theorem sc__law_one : FnScope ["bag", "some"] ["bag", "some"] (defScope s__law_one) := ⟨rfl, rfl, rfl, by decide +kernel, rfl, by decide +kernel, by decide +kernel⟩
abbrev s__law_value : Stmt := (top 25)
theorem sc__law_value : FnScope ["bag", "kind", "many", "some"] ["bag"] (defScope s__law_value) := ⟨rfl, rfl, rfl, by decide +kernel, rfl, by decide +kernel, by decide +kernel⟩
abbrev s__law_kinds : Stmt := (top 26)
theorem sc__law_kinds : FnScope ["e", "found", "at", "each"] ["e"] (defScope s__law_kinds) := ⟨rfl, rfl, rfl, by decide +kernel, rfl, by decide +kernel, by decide +kernel⟩
abbrev s__law_raised : Stmt := (top 27)
theorem sc__law_raised : FnScope ["number", "one", "two", "three", "four", "told", "e"] ["number", "one", "two", "three", "four"] (defScope s__law_raised) := ⟨rfl, rfl, rfl, by decide +kernel, rfl, by decide +kernel, by decide +kernel⟩
abbrev s_law : Stmt := (top 28)
theorem sc_law : FnScope ["script", "at", "bag", "a", "b", "c", "d", "base", "gap", "lawful", "made", "k", "e", "is_early", "is_look", "is_run", "told", "pairs", "more", "turn"] ["script"] (defScope s_law) := ⟨rfl, rfl, rfl, by decide +kernel, rfl, by decide +kernel, by decide +kernel⟩
def fn_BadText___init__ : DefS := ⟨fun K => He.fAd K ("BadText", some "__init__"), "__init__", "BadText.__init__", s_BadText___init__⟩
def fn_TooMany___init__ : DefS := ⟨fun K => He.fAd K ("TooMany", some "__init__"), "__init__", "TooMany.__init__", s_TooMany___init__⟩
def fn_Twice___init__ : DefS := ⟨fun K => He.fAd K ("Twice", some "__init__"), "__init__", "Twice.__init__", s_Twice___init__⟩
def fn_NoClass___init__ : DefS := ⟨fun K => He.fAd K ("NoClass", some "__init__"), "__init__", "NoClass.__init__", s_NoClass___init__⟩
def fn_NoOrder___init__ : DefS := ⟨fun K => He.fAd K ("NoOrder", some "__init__"), "__init__", "NoOrder.__init__", s_NoOrder___init__⟩
def fn_NotABase___init__ : DefS := ⟨fun K => He.fAd K ("NotABase", some "__init__"), "__init__", "NotABase.__init__", s_NotABase___init__⟩
def fn_Final___init__ : DefS := ⟨fun K => He.fAd K ("Final", some "__init__"), "__init__", "Final.__init__", s_Final___init__⟩
def fn_NotChained___init__ : DefS := ⟨fun K => He.fAd K ("NotChained", some "__init__"), "__init__", "NotChained.__init__", s_NotChained___init__⟩
def fn_NotLawful___init__ : DefS := ⟨fun K => He.fAd K ("NotLawful", some "__init__"), "__init__", "NotLawful.__init__", s_NotLawful___init__⟩
def fn_BadKey___init__ : DefS := ⟨fun K => He.fAd K ("BadKey", some "__init__"), "__init__", "BadKey.__init__", s_BadKey___init__⟩
def fn_BadName___init__ : DefS := ⟨fun K => He.fAd K ("BadName", some "__init__"), "__init__", "BadName.__init__", s_BadName___init__⟩
def fn_BadOrder___init__ : DefS := ⟨fun K => He.fAd K ("BadOrder", some "__init__"), "__init__", "BadOrder.__init__", s_BadOrder___init__⟩
def fn_BadDeed___init__ : DefS := ⟨fun K => He.fAd K ("BadDeed", some "__init__"), "__init__", "BadDeed.__init__", s_BadDeed___init__⟩
def fn_BadLimit___init__ : DefS := ⟨fun K => He.fAd K ("BadLimit", some "__init__"), "__init__", "BadLimit.__init__", s_BadLimit___init__⟩
def fn_Far___init__ : DefS := ⟨fun K => He.fAd K ("Far", some "__init__"), "__init__", "Far.__init__", s_Far___init__⟩
def fn_Gap___init__ : DefS := ⟨fun K => He.fAd K ("Gap", some "__init__"), "__init__", "Gap.__init__", s_Gap___init__⟩
def fn_Long___init__ : DefS := ⟨fun K => He.fAd K ("Long", some "__init__"), "__init__", "Long.__init__", s_Long___init__⟩
def fn_NoEnd___init__ : DefS := ⟨fun K => He.fAd K ("NoEnd", some "__init__"), "__init__", "NoEnd.__init__", s_NoEnd___init__⟩
def fn__law_bag : DefS := ⟨fun K => He.fAd K ("_law_bag", none), "_law_bag", "_law_bag", s__law_bag⟩
def fn__law_draw : DefS := ⟨fun K => He.fAd K ("_law_draw", none), "_law_draw", "_law_draw", s__law_draw⟩
def fn__law_value : DefS := ⟨fun K => He.fAd K ("_law_value", none), "_law_value", "_law_value", s__law_value⟩
def fn__law_kinds : DefS := ⟨fun K => He.fAd K ("_law_kinds", none), "_law_kinds", "_law_kinds", s__law_kinds⟩
def fn__law_raised : DefS := ⟨fun K => He.fAd K ("_law_raised", none), "_law_raised", "_law_raised", s__law_raised⟩
def fn_law : DefS := ⟨fun K => He.fAd K ("law", none), "law", "law", s_law⟩
def fns : List DefS := fn_BadText___init__ :: fn_TooMany___init__ :: fn_Twice___init__ :: fn_NoClass___init__ :: fn_NoOrder___init__ :: fn_NotABase___init__ :: fn_Final___init__ :: fn_NotChained___init__ :: fn_NotLawful___init__ :: fn_BadKey___init__ :: fn_BadName___init__ :: fn_BadOrder___init__ :: fn_BadDeed___init__ :: fn_BadLimit___init__ :: fn_Far___init__ :: fn_Gap___init__ :: fn_Long___init__ :: fn_NoEnd___init__ :: fn__law_bag :: fn__law_draw :: fn__law_value :: fn__law_kinds :: fn__law_raised :: fn_law :: []
def ex0 (K : PySem.W.Frag) : List Bool := [decide (PySem.W.nsIn K mainGlobals "LookupError" = some none), decide (PySem.W.nsIn K mainGlobals "RuntimeError" = some none), decide (PySem.W.nsIn K mainGlobals "ValueError" = some none), decide (PySem.W.nsIn K mainGlobals "abs" = some none), decide (PySem.W.nsIn K mainGlobals "enumerate" = some none), decide (PySem.W.nsIn K mainGlobals "int" = some none), decide (PySem.W.nsIn K mainGlobals "isinstance" = some none), decide (PySem.W.nsIn K mainGlobals "len" = some none), decide (PySem.W.nsIn K mainGlobals "max" = some none), decide (PySem.W.nsIn K mainGlobals "min" = some none), decide (PySem.W.nsIn K mainGlobals "range" = some none), decide (PySem.W.nsIn K mainGlobals "repr" = some none), decide (PySem.W.nsIn K mainGlobals "str" = some none), decide (PySem.W.nsIn K mainGlobals "EarlyError" = some (some (.ref (He.ga K "EarlyError")))), decide (PySem.W.nsIn K mainGlobals "BadText" = some (some (.ref (He.ga K "BadText"))))]
def ex1 (K : PySem.W.Frag) : List Bool := [decide (PySem.W.hasDictIn K (He.ga K "BadText") = true), decide (PySem.W.subIn K (.ref (He.ga K "BadText")) (.type "BaseException") = some true), decide (PySem.W.findIn K (.ref (He.ga K "BadText")) "__getattribute__" = some (some (.builtin "BaseException.__getattribute__"))), decide (PySem.W.findIn K (.ref (He.ga K "BadText")) "__getattr__" = some none), decide (PySem.W.findIn K (.ref (He.ga K "BadText")) "__class__" = some (some (.builtin "object.__class__"))), decide (PySem.W.specialIn K (.builtin "object.__class__") "__get__" = some (some (.builtin "getset_descriptor.__get__"))), decide (PySem.W.takesIn K (.builtin "object.__class__") = some true), decide (PySem.W.mroIn K (He.ga K "BadText") (.type "object") = some true), decide (PySem.W.keepIn K (.ref (He.ga K "BadText")) = true), PySem.W.excInitIn K (He.ga K "BadText") [.type "ValueError", .type "Exception", .type "BaseException", .type "object"] "ValueError.__new__", PySem.W.excOver K (He.ga K "BadText") [.type "ValueError", .type "Exception", .type "BaseException", .type "object"], decide (PySem.W.findIn K (.ref (He.ga K "BadText")) "__setattr__" = some (some (.builtin "object.__setattr__"))), decide (PySem.W.typeIn K (.ref (He.ga K "BadText")) = some (.type "type")), decide (PySem.W.findIn K (.ref (He.ga K "BadText")) "at" = some none), decide (PySem.W.nsIn K mainGlobals "TooMany" = some (some (.ref (He.ga K "TooMany"))))]
def ex2 (K : PySem.W.Frag) : List Bool := [decide (PySem.W.hasDictIn K (He.ga K "TooMany") = true), decide (PySem.W.subIn K (.ref (He.ga K "TooMany")) (.type "BaseException") = some true), decide (PySem.W.findIn K (.ref (He.ga K "TooMany")) "__getattribute__" = some (some (.builtin "BaseException.__getattribute__"))), decide (PySem.W.findIn K (.ref (He.ga K "TooMany")) "__getattr__" = some none), decide (PySem.W.findIn K (.ref (He.ga K "TooMany")) "__class__" = some (some (.builtin "object.__class__"))), decide (PySem.W.specialIn K (.builtin "object.__class__") "__get__" = some (some (.builtin "getset_descriptor.__get__"))), decide (PySem.W.takesIn K (.builtin "object.__class__") = some true), decide (PySem.W.mroIn K (He.ga K "TooMany") (.type "object") = some true), decide (PySem.W.keepIn K (.ref (He.ga K "TooMany")) = true), PySem.W.excInitIn K (He.ga K "TooMany") [.type "ValueError", .type "Exception", .type "BaseException", .type "object"] "ValueError.__new__", PySem.W.excOver K (He.ga K "TooMany") [.type "ValueError", .type "Exception", .type "BaseException", .type "object"], decide (PySem.W.findIn K (.ref (He.ga K "TooMany")) "__setattr__" = some (some (.builtin "object.__setattr__"))), decide (PySem.W.typeIn K (.ref (He.ga K "TooMany")) = some (.type "type")), decide (PySem.W.findIn K (.ref (He.ga K "TooMany")) "what" = some none), decide (PySem.W.nsIn K mainGlobals "Twice" = some (some (.ref (He.ga K "Twice"))))]
def ex3 (K : PySem.W.Frag) : List Bool := [decide (PySem.W.hasDictIn K (He.ga K "Twice") = true), decide (PySem.W.subIn K (.ref (He.ga K "Twice")) (.type "BaseException") = some true), decide (PySem.W.findIn K (.ref (He.ga K "Twice")) "__getattribute__" = some (some (.builtin "BaseException.__getattribute__"))), decide (PySem.W.findIn K (.ref (He.ga K "Twice")) "__getattr__" = some none), decide (PySem.W.findIn K (.ref (He.ga K "Twice")) "__class__" = some (some (.builtin "object.__class__"))), decide (PySem.W.specialIn K (.builtin "object.__class__") "__get__" = some (some (.builtin "getset_descriptor.__get__"))), decide (PySem.W.takesIn K (.builtin "object.__class__") = some true), decide (PySem.W.mroIn K (He.ga K "Twice") (.type "object") = some true), decide (PySem.W.keepIn K (.ref (He.ga K "Twice")) = true), PySem.W.excInitIn K (He.ga K "Twice") [.type "ValueError", .type "Exception", .type "BaseException", .type "object"] "ValueError.__new__", PySem.W.excOver K (He.ga K "Twice") [.type "ValueError", .type "Exception", .type "BaseException", .type "object"], decide (PySem.W.findIn K (.ref (He.ga K "Twice")) "__setattr__" = some (some (.builtin "object.__setattr__"))), decide (PySem.W.typeIn K (.ref (He.ga K "Twice")) = some (.type "type")), decide (PySem.W.findIn K (.ref (He.ga K "Twice")) "name" = some none), decide (PySem.W.nsIn K mainGlobals "NoClass" = some (some (.ref (He.ga K "NoClass"))))]
def ex4 (K : PySem.W.Frag) : List Bool := [decide (PySem.W.hasDictIn K (He.ga K "NoClass") = true), decide (PySem.W.subIn K (.ref (He.ga K "NoClass")) (.type "BaseException") = some true), decide (PySem.W.findIn K (.ref (He.ga K "NoClass")) "__getattribute__" = some (some (.builtin "BaseException.__getattribute__"))), decide (PySem.W.findIn K (.ref (He.ga K "NoClass")) "__getattr__" = some none), decide (PySem.W.findIn K (.ref (He.ga K "NoClass")) "__class__" = some (some (.builtin "object.__class__"))), decide (PySem.W.specialIn K (.builtin "object.__class__") "__get__" = some (some (.builtin "getset_descriptor.__get__"))), decide (PySem.W.takesIn K (.builtin "object.__class__") = some true), decide (PySem.W.mroIn K (He.ga K "NoClass") (.type "object") = some true), decide (PySem.W.keepIn K (.ref (He.ga K "NoClass")) = true), PySem.W.excInitIn K (He.ga K "NoClass") [.type "ValueError", .type "Exception", .type "BaseException", .type "object"] "ValueError.__new__", PySem.W.excOver K (He.ga K "NoClass") [.type "ValueError", .type "Exception", .type "BaseException", .type "object"], decide (PySem.W.findIn K (.ref (He.ga K "NoClass")) "__setattr__" = some (some (.builtin "object.__setattr__"))), decide (PySem.W.typeIn K (.ref (He.ga K "NoClass")) = some (.type "type")), decide (PySem.W.findIn K (.ref (He.ga K "NoClass")) "name" = some none), decide (PySem.W.nsIn K mainGlobals "NoOrder" = some (some (.ref (He.ga K "NoOrder"))))]
def ex5 (K : PySem.W.Frag) : List Bool := [decide (PySem.W.hasDictIn K (He.ga K "NoOrder") = true), decide (PySem.W.subIn K (.ref (He.ga K "NoOrder")) (.type "BaseException") = some true), decide (PySem.W.findIn K (.ref (He.ga K "NoOrder")) "__getattribute__" = some (some (.builtin "BaseException.__getattribute__"))), decide (PySem.W.findIn K (.ref (He.ga K "NoOrder")) "__getattr__" = some none), decide (PySem.W.findIn K (.ref (He.ga K "NoOrder")) "__class__" = some (some (.builtin "object.__class__"))), decide (PySem.W.specialIn K (.builtin "object.__class__") "__get__" = some (some (.builtin "getset_descriptor.__get__"))), decide (PySem.W.takesIn K (.builtin "object.__class__") = some true), decide (PySem.W.mroIn K (He.ga K "NoOrder") (.type "object") = some true), decide (PySem.W.keepIn K (.ref (He.ga K "NoOrder")) = true), PySem.W.excInitIn K (He.ga K "NoOrder") [.type "ValueError", .type "Exception", .type "BaseException", .type "object"] "ValueError.__new__", PySem.W.excOver K (He.ga K "NoOrder") [.type "ValueError", .type "Exception", .type "BaseException", .type "object"], decide (PySem.W.findIn K (.ref (He.ga K "NoOrder")) "__setattr__" = some (some (.builtin "object.__setattr__"))), decide (PySem.W.typeIn K (.ref (He.ga K "NoOrder")) = some (.type "type")), decide (PySem.W.findIn K (.ref (He.ga K "NoOrder")) "name" = some none), decide (PySem.W.nsIn K mainGlobals "NotABase" = some (some (.ref (He.ga K "NotABase"))))]
def ex6 (K : PySem.W.Frag) : List Bool := [decide (PySem.W.hasDictIn K (He.ga K "NotABase") = true), decide (PySem.W.subIn K (.ref (He.ga K "NotABase")) (.type "BaseException") = some true), decide (PySem.W.findIn K (.ref (He.ga K "NotABase")) "__getattribute__" = some (some (.builtin "BaseException.__getattribute__"))), decide (PySem.W.findIn K (.ref (He.ga K "NotABase")) "__getattr__" = some none), decide (PySem.W.findIn K (.ref (He.ga K "NotABase")) "__class__" = some (some (.builtin "object.__class__"))), decide (PySem.W.specialIn K (.builtin "object.__class__") "__get__" = some (some (.builtin "getset_descriptor.__get__"))), decide (PySem.W.takesIn K (.builtin "object.__class__") = some true), decide (PySem.W.mroIn K (He.ga K "NotABase") (.type "object") = some true), decide (PySem.W.keepIn K (.ref (He.ga K "NotABase")) = true), PySem.W.excInitIn K (He.ga K "NotABase") [.type "ValueError", .type "Exception", .type "BaseException", .type "object"] "ValueError.__new__", PySem.W.excOver K (He.ga K "NotABase") [.type "ValueError", .type "Exception", .type "BaseException", .type "object"], decide (PySem.W.findIn K (.ref (He.ga K "NotABase")) "__setattr__" = some (some (.builtin "object.__setattr__"))), decide (PySem.W.typeIn K (.ref (He.ga K "NotABase")) = some (.type "type")), decide (PySem.W.findIn K (.ref (He.ga K "NotABase")) "owner" = some none), decide (PySem.W.findIn K (.ref (He.ga K "NotABase")) "key" = some none)]
def ex7 (K : PySem.W.Frag) : List Bool := [decide (PySem.W.findIn K (.ref (He.ga K "NotABase")) "path" = some none), decide (PySem.W.nsIn K mainGlobals "Final" = some (some (.ref (He.ga K "Final")))), decide (PySem.W.hasDictIn K (He.ga K "Final") = true), decide (PySem.W.subIn K (.ref (He.ga K "Final")) (.type "BaseException") = some true), decide (PySem.W.findIn K (.ref (He.ga K "Final")) "__getattribute__" = some (some (.builtin "BaseException.__getattribute__"))), decide (PySem.W.findIn K (.ref (He.ga K "Final")) "__getattr__" = some none), decide (PySem.W.findIn K (.ref (He.ga K "Final")) "__class__" = some (some (.builtin "object.__class__"))), decide (PySem.W.specialIn K (.builtin "object.__class__") "__get__" = some (some (.builtin "getset_descriptor.__get__"))), decide (PySem.W.takesIn K (.builtin "object.__class__") = some true), decide (PySem.W.mroIn K (He.ga K "Final") (.type "object") = some true), decide (PySem.W.keepIn K (.ref (He.ga K "Final")) = true), PySem.W.excInitIn K (He.ga K "Final") [.type "ValueError", .type "Exception", .type "BaseException", .type "object"] "ValueError.__new__", PySem.W.excOver K (He.ga K "Final") [.type "ValueError", .type "Exception", .type "BaseException", .type "object"], decide (PySem.W.findIn K (.ref (He.ga K "Final")) "__setattr__" = some (some (.builtin "object.__setattr__"))), decide (PySem.W.typeIn K (.ref (He.ga K "Final")) = some (.type "type"))]
def ex8 (K : PySem.W.Frag) : List Bool := [decide (PySem.W.findIn K (.ref (He.ga K "Final")) "name" = some none), decide (PySem.W.findIn K (.ref (He.ga K "Final")) "key" = some none), decide (PySem.W.nsIn K mainGlobals "NotChained" = some (some (.ref (He.ga K "NotChained")))), decide (PySem.W.hasDictIn K (He.ga K "NotChained") = true), decide (PySem.W.subIn K (.ref (He.ga K "NotChained")) (.type "BaseException") = some true), decide (PySem.W.findIn K (.ref (He.ga K "NotChained")) "__getattribute__" = some (some (.builtin "BaseException.__getattribute__"))), decide (PySem.W.findIn K (.ref (He.ga K "NotChained")) "__getattr__" = some none), decide (PySem.W.findIn K (.ref (He.ga K "NotChained")) "__class__" = some (some (.builtin "object.__class__"))), decide (PySem.W.specialIn K (.builtin "object.__class__") "__get__" = some (some (.builtin "getset_descriptor.__get__"))), decide (PySem.W.takesIn K (.builtin "object.__class__") = some true), decide (PySem.W.mroIn K (He.ga K "NotChained") (.type "object") = some true), decide (PySem.W.keepIn K (.ref (He.ga K "NotChained")) = true), PySem.W.excInitIn K (He.ga K "NotChained") [.type "ValueError", .type "Exception", .type "BaseException", .type "object"] "ValueError.__new__", PySem.W.excOver K (He.ga K "NotChained") [.type "ValueError", .type "Exception", .type "BaseException", .type "object"], decide (PySem.W.findIn K (.ref (He.ga K "NotChained")) "__setattr__" = some (some (.builtin "object.__setattr__")))]
def ex9 (K : PySem.W.Frag) : List Bool := [decide (PySem.W.typeIn K (.ref (He.ga K "NotChained")) = some (.type "type")), decide (PySem.W.findIn K (.ref (He.ga K "NotChained")) "name" = some none), decide (PySem.W.findIn K (.ref (He.ga K "NotChained")) "key" = some none), decide (PySem.W.nsIn K mainGlobals "NotLawful" = some (some (.ref (He.ga K "NotLawful")))), decide (PySem.W.hasDictIn K (He.ga K "NotLawful") = true), decide (PySem.W.subIn K (.ref (He.ga K "NotLawful")) (.type "BaseException") = some true), decide (PySem.W.findIn K (.ref (He.ga K "NotLawful")) "__getattribute__" = some (some (.builtin "BaseException.__getattribute__"))), decide (PySem.W.findIn K (.ref (He.ga K "NotLawful")) "__getattr__" = some none), decide (PySem.W.findIn K (.ref (He.ga K "NotLawful")) "__class__" = some (some (.builtin "object.__class__"))), decide (PySem.W.specialIn K (.builtin "object.__class__") "__get__" = some (some (.builtin "getset_descriptor.__get__"))), decide (PySem.W.takesIn K (.builtin "object.__class__") = some true), decide (PySem.W.mroIn K (He.ga K "NotLawful") (.type "object") = some true), decide (PySem.W.keepIn K (.ref (He.ga K "NotLawful")) = true), PySem.W.excInitIn K (He.ga K "NotLawful") [.type "ValueError", .type "Exception", .type "BaseException", .type "object"] "ValueError.__new__", PySem.W.excOver K (He.ga K "NotLawful") [.type "ValueError", .type "Exception", .type "BaseException", .type "object"]]
def ex10 (K : PySem.W.Frag) : List Bool := [decide (PySem.W.findIn K (.ref (He.ga K "NotLawful")) "__setattr__" = some (some (.builtin "object.__setattr__"))), decide (PySem.W.typeIn K (.ref (He.ga K "NotLawful")) = some (.type "type")), decide (PySem.W.findIn K (.ref (He.ga K "NotLawful")) "owner" = some none), decide (PySem.W.findIn K (.ref (He.ga K "NotLawful")) "key" = some none), decide (PySem.W.findIn K (.ref (He.ga K "NotLawful")) "path" = some none), decide (PySem.W.nsIn K mainGlobals "BadKey" = some (some (.ref (He.ga K "BadKey")))), decide (PySem.W.hasDictIn K (He.ga K "BadKey") = true), decide (PySem.W.subIn K (.ref (He.ga K "BadKey")) (.type "BaseException") = some true), decide (PySem.W.findIn K (.ref (He.ga K "BadKey")) "__getattribute__" = some (some (.builtin "BaseException.__getattribute__"))), decide (PySem.W.findIn K (.ref (He.ga K "BadKey")) "__getattr__" = some none), decide (PySem.W.findIn K (.ref (He.ga K "BadKey")) "__class__" = some (some (.builtin "object.__class__"))), decide (PySem.W.specialIn K (.builtin "object.__class__") "__get__" = some (some (.builtin "getset_descriptor.__get__"))), decide (PySem.W.takesIn K (.builtin "object.__class__") = some true), decide (PySem.W.mroIn K (He.ga K "BadKey") (.type "object") = some true), decide (PySem.W.keepIn K (.ref (He.ga K "BadKey")) = true)]
def ex11 (K : PySem.W.Frag) : List Bool := [PySem.W.excInitIn K (He.ga K "BadKey") [.type "ValueError", .type "Exception", .type "BaseException", .type "object"] "ValueError.__new__", PySem.W.excOver K (He.ga K "BadKey") [.type "ValueError", .type "Exception", .type "BaseException", .type "object"], decide (PySem.W.findIn K (.ref (He.ga K "BadKey")) "__setattr__" = some (some (.builtin "object.__setattr__"))), decide (PySem.W.typeIn K (.ref (He.ga K "BadKey")) = some (.type "type")), decide (PySem.W.findIn K (.ref (He.ga K "BadKey")) "key" = some none), decide (PySem.W.nsIn K mainGlobals "BadName" = some (some (.ref (He.ga K "BadName")))), decide (PySem.W.hasDictIn K (He.ga K "BadName") = true), decide (PySem.W.subIn K (.ref (He.ga K "BadName")) (.type "BaseException") = some true), decide (PySem.W.findIn K (.ref (He.ga K "BadName")) "__getattribute__" = some (some (.builtin "BaseException.__getattribute__"))), decide (PySem.W.findIn K (.ref (He.ga K "BadName")) "__getattr__" = some none), decide (PySem.W.findIn K (.ref (He.ga K "BadName")) "__class__" = some (some (.builtin "object.__class__"))), decide (PySem.W.specialIn K (.builtin "object.__class__") "__get__" = some (some (.builtin "getset_descriptor.__get__"))), decide (PySem.W.takesIn K (.builtin "object.__class__") = some true), decide (PySem.W.mroIn K (He.ga K "BadName") (.type "object") = some true), decide (PySem.W.keepIn K (.ref (He.ga K "BadName")) = true)]
def ex12 (K : PySem.W.Frag) : List Bool := [PySem.W.excInitIn K (He.ga K "BadName") [.type "ValueError", .type "Exception", .type "BaseException", .type "object"] "ValueError.__new__", PySem.W.excOver K (He.ga K "BadName") [.type "ValueError", .type "Exception", .type "BaseException", .type "object"], decide (PySem.W.findIn K (.ref (He.ga K "BadName")) "__setattr__" = some (some (.builtin "object.__setattr__"))), decide (PySem.W.typeIn K (.ref (He.ga K "BadName")) = some (.type "type")), decide (PySem.W.findIn K (.ref (He.ga K "BadName")) "name" = some none), decide (PySem.W.nsIn K mainGlobals "BadOrder" = some (some (.ref (He.ga K "BadOrder")))), decide (PySem.W.hasDictIn K (He.ga K "BadOrder") = true), decide (PySem.W.subIn K (.ref (He.ga K "BadOrder")) (.type "BaseException") = some true), decide (PySem.W.findIn K (.ref (He.ga K "BadOrder")) "__getattribute__" = some (some (.builtin "BaseException.__getattribute__"))), decide (PySem.W.findIn K (.ref (He.ga K "BadOrder")) "__getattr__" = some none), decide (PySem.W.findIn K (.ref (He.ga K "BadOrder")) "__class__" = some (some (.builtin "object.__class__"))), decide (PySem.W.specialIn K (.builtin "object.__class__") "__get__" = some (some (.builtin "getset_descriptor.__get__"))), decide (PySem.W.takesIn K (.builtin "object.__class__") = some true), decide (PySem.W.mroIn K (He.ga K "BadOrder") (.type "object") = some true), decide (PySem.W.keepIn K (.ref (He.ga K "BadOrder")) = true)]
def ex13 (K : PySem.W.Frag) : List Bool := [PySem.W.excInitIn K (He.ga K "BadOrder") [.type "ValueError", .type "Exception", .type "BaseException", .type "object"] "ValueError.__new__", PySem.W.excOver K (He.ga K "BadOrder") [.type "ValueError", .type "Exception", .type "BaseException", .type "object"], decide (PySem.W.findIn K (.ref (He.ga K "BadOrder")) "__setattr__" = some (some (.builtin "object.__setattr__"))), decide (PySem.W.typeIn K (.ref (He.ga K "BadOrder")) = some (.type "type")), decide (PySem.W.findIn K (.ref (He.ga K "BadOrder")) "value" = some none), decide (PySem.W.nsIn K mainGlobals "BadDeed" = some (some (.ref (He.ga K "BadDeed")))), decide (PySem.W.hasDictIn K (He.ga K "BadDeed") = true), decide (PySem.W.subIn K (.ref (He.ga K "BadDeed")) (.type "BaseException") = some true), decide (PySem.W.findIn K (.ref (He.ga K "BadDeed")) "__getattribute__" = some (some (.builtin "BaseException.__getattribute__"))), decide (PySem.W.findIn K (.ref (He.ga K "BadDeed")) "__getattr__" = some none), decide (PySem.W.findIn K (.ref (He.ga K "BadDeed")) "__class__" = some (some (.builtin "object.__class__"))), decide (PySem.W.specialIn K (.builtin "object.__class__") "__get__" = some (some (.builtin "getset_descriptor.__get__"))), decide (PySem.W.takesIn K (.builtin "object.__class__") = some true), decide (PySem.W.mroIn K (He.ga K "BadDeed") (.type "object") = some true), decide (PySem.W.keepIn K (.ref (He.ga K "BadDeed")) = true)]
def ex14 (K : PySem.W.Frag) : List Bool := [PySem.W.excInitIn K (He.ga K "BadDeed") [.type "ValueError", .type "Exception", .type "BaseException", .type "object"] "ValueError.__new__", PySem.W.excOver K (He.ga K "BadDeed") [.type "ValueError", .type "Exception", .type "BaseException", .type "object"], decide (PySem.W.findIn K (.ref (He.ga K "BadDeed")) "__setattr__" = some (some (.builtin "object.__setattr__"))), decide (PySem.W.typeIn K (.ref (He.ga K "BadDeed")) = some (.type "type")), decide (PySem.W.findIn K (.ref (He.ga K "BadDeed")) "at" = some none), decide (PySem.W.nsIn K mainGlobals "BadLimit" = some (some (.ref (He.ga K "BadLimit")))), decide (PySem.W.hasDictIn K (He.ga K "BadLimit") = true), decide (PySem.W.subIn K (.ref (He.ga K "BadLimit")) (.type "BaseException") = some true), decide (PySem.W.findIn K (.ref (He.ga K "BadLimit")) "__getattribute__" = some (some (.builtin "BaseException.__getattribute__"))), decide (PySem.W.findIn K (.ref (He.ga K "BadLimit")) "__getattr__" = some none), decide (PySem.W.findIn K (.ref (He.ga K "BadLimit")) "__class__" = some (some (.builtin "object.__class__"))), decide (PySem.W.specialIn K (.builtin "object.__class__") "__get__" = some (some (.builtin "getset_descriptor.__get__"))), decide (PySem.W.takesIn K (.builtin "object.__class__") = some true), decide (PySem.W.mroIn K (He.ga K "BadLimit") (.type "object") = some true), decide (PySem.W.keepIn K (.ref (He.ga K "BadLimit")) = true)]
def ex15 (K : PySem.W.Frag) : List Bool := [PySem.W.excInitIn K (He.ga K "BadLimit") [.type "ValueError", .type "Exception", .type "BaseException", .type "object"] "ValueError.__new__", PySem.W.excOver K (He.ga K "BadLimit") [.type "ValueError", .type "Exception", .type "BaseException", .type "object"], decide (PySem.W.findIn K (.ref (He.ga K "BadLimit")) "__setattr__" = some (some (.builtin "object.__setattr__"))), decide (PySem.W.typeIn K (.ref (He.ga K "BadLimit")) = some (.type "type")), decide (PySem.W.findIn K (.ref (He.ga K "BadLimit")) "value" = some none), decide (PySem.W.nsIn K mainGlobals "Far" = some (some (.ref (He.ga K "Far")))), decide (PySem.W.hasDictIn K (He.ga K "Far") = true), decide (PySem.W.subIn K (.ref (He.ga K "Far")) (.type "BaseException") = some true), decide (PySem.W.findIn K (.ref (He.ga K "Far")) "__getattribute__" = some (some (.builtin "BaseException.__getattribute__"))), decide (PySem.W.findIn K (.ref (He.ga K "Far")) "__getattr__" = some none), decide (PySem.W.findIn K (.ref (He.ga K "Far")) "__class__" = some (some (.builtin "object.__class__"))), decide (PySem.W.specialIn K (.builtin "object.__class__") "__get__" = some (some (.builtin "getset_descriptor.__get__"))), decide (PySem.W.takesIn K (.builtin "object.__class__") = some true), decide (PySem.W.mroIn K (He.ga K "Far") (.type "object") = some true), decide (PySem.W.keepIn K (.ref (He.ga K "Far")) = true)]
def ex16 (K : PySem.W.Frag) : List Bool := [PySem.W.excInitIn K (He.ga K "Far") [.type "ValueError", .type "Exception", .type "BaseException", .type "object"] "ValueError.__new__", PySem.W.excOver K (He.ga K "Far") [.type "ValueError", .type "Exception", .type "BaseException", .type "object"], decide (PySem.W.findIn K (.ref (He.ga K "Far")) "__setattr__" = some (some (.builtin "object.__setattr__"))), decide (PySem.W.typeIn K (.ref (He.ga K "Far")) = some (.type "type")), decide (PySem.W.findIn K (.ref (He.ga K "Far")) "steps" = some none), decide (PySem.W.nsIn K mainGlobals "Gap" = some (some (.ref (He.ga K "Gap")))), decide (PySem.W.hasDictIn K (He.ga K "Gap") = true), decide (PySem.W.subIn K (.ref (He.ga K "Gap")) (.type "BaseException") = some true), decide (PySem.W.findIn K (.ref (He.ga K "Gap")) "__getattribute__" = some (some (.builtin "BaseException.__getattribute__"))), decide (PySem.W.findIn K (.ref (He.ga K "Gap")) "__getattr__" = some none), decide (PySem.W.findIn K (.ref (He.ga K "Gap")) "__class__" = some (some (.builtin "object.__class__"))), decide (PySem.W.specialIn K (.builtin "object.__class__") "__get__" = some (some (.builtin "getset_descriptor.__get__"))), decide (PySem.W.takesIn K (.builtin "object.__class__") = some true), decide (PySem.W.mroIn K (He.ga K "Gap") (.type "object") = some true), decide (PySem.W.keepIn K (.ref (He.ga K "Gap")) = true)]
def ex17 (K : PySem.W.Frag) : List Bool := [PySem.W.excInitIn K (He.ga K "Gap") [.type "RuntimeError", .type "Exception", .type "BaseException", .type "object"] "RuntimeError.__new__", PySem.W.excOver K (He.ga K "Gap") [.type "RuntimeError", .type "Exception", .type "BaseException", .type "object"], decide (PySem.W.findIn K (.ref (He.ga K "Gap")) "__setattr__" = some (some (.builtin "object.__setattr__"))), decide (PySem.W.typeIn K (.ref (He.ga K "Gap")) = some (.type "type")), decide (PySem.W.findIn K (.ref (He.ga K "Gap")) "name" = some none), decide (PySem.W.findIn K (.ref (He.ga K "Gap")) "owner" = some none), decide (PySem.W.findIn K (.ref (He.ga K "Gap")) "key" = some none), decide (PySem.W.findIn K (.ref (He.ga K "Gap")) "path" = some none), decide (PySem.W.nsIn K mainGlobals "Long" = some (some (.ref (He.ga K "Long")))), decide (PySem.W.hasDictIn K (He.ga K "Long") = true), decide (PySem.W.subIn K (.ref (He.ga K "Long")) (.type "BaseException") = some true), decide (PySem.W.findIn K (.ref (He.ga K "Long")) "__getattribute__" = some (some (.builtin "BaseException.__getattribute__"))), decide (PySem.W.findIn K (.ref (He.ga K "Long")) "__getattr__" = some none), decide (PySem.W.findIn K (.ref (He.ga K "Long")) "__class__" = some (some (.builtin "object.__class__"))), decide (PySem.W.specialIn K (.builtin "object.__class__") "__get__" = some (some (.builtin "getset_descriptor.__get__")))]
def ex18 (K : PySem.W.Frag) : List Bool := [decide (PySem.W.takesIn K (.builtin "object.__class__") = some true), decide (PySem.W.mroIn K (He.ga K "Long") (.type "object") = some true), decide (PySem.W.keepIn K (.ref (He.ga K "Long")) = true), PySem.W.excInitIn K (He.ga K "Long") [.type "RuntimeError", .type "Exception", .type "BaseException", .type "object"] "RuntimeError.__new__", PySem.W.excOver K (He.ga K "Long") [.type "RuntimeError", .type "Exception", .type "BaseException", .type "object"], decide (PySem.W.findIn K (.ref (He.ga K "Long")) "__setattr__" = some (some (.builtin "object.__setattr__"))), decide (PySem.W.typeIn K (.ref (He.ga K "Long")) = some (.type "type")), decide (PySem.W.findIn K (.ref (He.ga K "Long")) "most" = some none), decide (PySem.W.nsIn K mainGlobals "NoObject" = some (some (.ref (He.ga K "NoObject")))), decide (PySem.W.hasDictIn K (He.ga K "NoObject") = true), decide (PySem.W.subIn K (.ref (He.ga K "NoObject")) (.type "BaseException") = some true), decide (PySem.W.findIn K (.ref (He.ga K "NoObject")) "__getattribute__" = some (some (.builtin "BaseException.__getattribute__"))), decide (PySem.W.findIn K (.ref (He.ga K "NoObject")) "__getattr__" = some none), decide (PySem.W.findIn K (.ref (He.ga K "NoObject")) "__class__" = some (some (.builtin "object.__class__"))), decide (PySem.W.specialIn K (.builtin "object.__class__") "__get__" = some (some (.builtin "getset_descriptor.__get__")))]
def ex19 (K : PySem.W.Frag) : List Bool := [decide (PySem.W.takesIn K (.builtin "object.__class__") = some true), decide (PySem.W.mroIn K (He.ga K "NoObject") (.type "object") = some true), decide (PySem.W.keepIn K (.ref (He.ga K "NoObject")) = true), PySem.W.excIn K (He.ga K "NoObject") [.type "RuntimeError", .type "Exception", .type "BaseException", .type "object"] "RuntimeError.__new__", decide (PySem.W.nsIn K mainGlobals "NoEnd" = some (some (.ref (He.ga K "NoEnd")))), decide (PySem.W.hasDictIn K (He.ga K "NoEnd") = true), decide (PySem.W.subIn K (.ref (He.ga K "NoEnd")) (.type "BaseException") = some true), decide (PySem.W.findIn K (.ref (He.ga K "NoEnd")) "__getattribute__" = some (some (.builtin "BaseException.__getattribute__"))), decide (PySem.W.findIn K (.ref (He.ga K "NoEnd")) "__getattr__" = some none), decide (PySem.W.findIn K (.ref (He.ga K "NoEnd")) "__class__" = some (some (.builtin "object.__class__"))), decide (PySem.W.specialIn K (.builtin "object.__class__") "__get__" = some (some (.builtin "getset_descriptor.__get__"))), decide (PySem.W.takesIn K (.builtin "object.__class__") = some true), decide (PySem.W.mroIn K (He.ga K "NoEnd") (.type "object") = some true), decide (PySem.W.keepIn K (.ref (He.ga K "NoEnd")) = true), PySem.W.excInitIn K (He.ga K "NoEnd") [.type "LookupError", .type "Exception", .type "BaseException", .type "object"] "LookupError.__new__"]
def ex20 (K : PySem.W.Frag) : List Bool := [PySem.W.excOver K (He.ga K "NoEnd") [.type "LookupError", .type "Exception", .type "BaseException", .type "object"], decide (PySem.W.findIn K (.ref (He.ga K "NoEnd")) "__setattr__" = some (some (.builtin "object.__setattr__"))), decide (PySem.W.typeIn K (.ref (He.ga K "NoEnd")) = some (.type "type")), decide (PySem.W.findIn K (.ref (He.ga K "NoEnd")) "end" = some none), (([((He.ga K "BadText"), true), ((He.ga K "TooMany"), false), ((He.ga K "Twice"), false), ((He.ga K "NoClass"), false), ((He.ga K "NoOrder"), false), ((He.ga K "NotABase"), false), ((He.ga K "Final"), false), ((He.ga K "NotChained"), false), ((He.ga K "NotLawful"), false), ((He.ga K "BadKey"), false), ((He.ga K "BadName"), false), ((He.ga K "BadOrder"), false), ((He.ga K "BadDeed"), false), ((He.ga K "BadLimit"), false), ((He.ga K "Far"), false), ((He.ga K "Gap"), false), ((He.ga K "Long"), false), ((He.ga K "NoObject"), false), ((He.ga K "NoEnd"), false)] : List (Addr × Bool)).all fun p => decide (PySem.W.kitOne K (.ref p.1) (.ref (He.ga K "BadText")) = some p.2)), (([((He.ga K "BadText"), false), ((He.ga K "TooMany"), true), ((He.ga K "Twice"), false), ((He.ga K "NoClass"), false), ((He.ga K "NoOrder"), false), ((He.ga K "NotABase"), false), ((He.ga K "Final"), false), ((He.ga K "NotChained"), false), ((He.ga K "NotLawful"), false), ((He.ga K "BadKey"), false), ((He.ga K "BadName"), false), ((He.ga K "BadOrder"), false), ((He.ga K "BadDeed"), false), ((He.ga K "BadLimit"), false), ((He.ga K "Far"), false), ((He.ga K "Gap"), false), ((He.ga K "Long"), false), ((He.ga K "NoObject"), false), ((He.ga K "NoEnd"), false)] : List (Addr × Bool)).all fun p => decide (PySem.W.kitOne K (.ref p.1) (.ref (He.ga K "TooMany")) = some p.2)), (([((He.ga K "BadText"), false), ((He.ga K "TooMany"), false), ((He.ga K "Twice"), true), ((He.ga K "NoClass"), false), ((He.ga K "NoOrder"), false), ((He.ga K "NotABase"), false), ((He.ga K "Final"), false), ((He.ga K "NotChained"), false), ((He.ga K "NotLawful"), false), ((He.ga K "BadKey"), false), ((He.ga K "BadName"), false), ((He.ga K "BadOrder"), false), ((He.ga K "BadDeed"), false), ((He.ga K "BadLimit"), false), ((He.ga K "Far"), false), ((He.ga K "Gap"), false), ((He.ga K "Long"), false), ((He.ga K "NoObject"), false), ((He.ga K "NoEnd"), false)] : List (Addr × Bool)).all fun p => decide (PySem.W.kitOne K (.ref p.1) (.ref (He.ga K "Twice")) = some p.2)), (([((He.ga K "BadText"), false), ((He.ga K "TooMany"), false), ((He.ga K "Twice"), false), ((He.ga K "NoClass"), true), ((He.ga K "NoOrder"), false), ((He.ga K "NotABase"), false), ((He.ga K "Final"), false), ((He.ga K "NotChained"), false), ((He.ga K "NotLawful"), false), ((He.ga K "BadKey"), false), ((He.ga K "BadName"), false), ((He.ga K "BadOrder"), false), ((He.ga K "BadDeed"), false), ((He.ga K "BadLimit"), false), ((He.ga K "Far"), false), ((He.ga K "Gap"), false), ((He.ga K "Long"), false), ((He.ga K "NoObject"), false), ((He.ga K "NoEnd"), false)] : List (Addr × Bool)).all fun p => decide (PySem.W.kitOne K (.ref p.1) (.ref (He.ga K "NoClass")) = some p.2)), (([((He.ga K "BadText"), false), ((He.ga K "TooMany"), false), ((He.ga K "Twice"), false), ((He.ga K "NoClass"), false), ((He.ga K "NoOrder"), true), ((He.ga K "NotABase"), false), ((He.ga K "Final"), false), ((He.ga K "NotChained"), false), ((He.ga K "NotLawful"), false), ((He.ga K "BadKey"), false), ((He.ga K "BadName"), false), ((He.ga K "BadOrder"), false), ((He.ga K "BadDeed"), false), ((He.ga K "BadLimit"), false), ((He.ga K "Far"), false), ((He.ga K "Gap"), false), ((He.ga K "Long"), false), ((He.ga K "NoObject"), false), ((He.ga K "NoEnd"), false)] : List (Addr × Bool)).all fun p => decide (PySem.W.kitOne K (.ref p.1) (.ref (He.ga K "NoOrder")) = some p.2)), (([((He.ga K "BadText"), false), ((He.ga K "TooMany"), false), ((He.ga K "Twice"), false), ((He.ga K "NoClass"), false), ((He.ga K "NoOrder"), false), ((He.ga K "NotABase"), true), ((He.ga K "Final"), false), ((He.ga K "NotChained"), false), ((He.ga K "NotLawful"), false), ((He.ga K "BadKey"), false), ((He.ga K "BadName"), false), ((He.ga K "BadOrder"), false), ((He.ga K "BadDeed"), false), ((He.ga K "BadLimit"), false), ((He.ga K "Far"), false), ((He.ga K "Gap"), false), ((He.ga K "Long"), false), ((He.ga K "NoObject"), false), ((He.ga K "NoEnd"), false)] : List (Addr × Bool)).all fun p => decide (PySem.W.kitOne K (.ref p.1) (.ref (He.ga K "NotABase")) = some p.2)), (([((He.ga K "BadText"), false), ((He.ga K "TooMany"), false), ((He.ga K "Twice"), false), ((He.ga K "NoClass"), false), ((He.ga K "NoOrder"), false), ((He.ga K "NotABase"), false), ((He.ga K "Final"), true), ((He.ga K "NotChained"), false), ((He.ga K "NotLawful"), false), ((He.ga K "BadKey"), false), ((He.ga K "BadName"), false), ((He.ga K "BadOrder"), false), ((He.ga K "BadDeed"), false), ((He.ga K "BadLimit"), false), ((He.ga K "Far"), false), ((He.ga K "Gap"), false), ((He.ga K "Long"), false), ((He.ga K "NoObject"), false), ((He.ga K "NoEnd"), false)] : List (Addr × Bool)).all fun p => decide (PySem.W.kitOne K (.ref p.1) (.ref (He.ga K "Final")) = some p.2)), (([((He.ga K "BadText"), false), ((He.ga K "TooMany"), false), ((He.ga K "Twice"), false), ((He.ga K "NoClass"), false), ((He.ga K "NoOrder"), false), ((He.ga K "NotABase"), false), ((He.ga K "Final"), false), ((He.ga K "NotChained"), true), ((He.ga K "NotLawful"), false), ((He.ga K "BadKey"), false), ((He.ga K "BadName"), false), ((He.ga K "BadOrder"), false), ((He.ga K "BadDeed"), false), ((He.ga K "BadLimit"), false), ((He.ga K "Far"), false), ((He.ga K "Gap"), false), ((He.ga K "Long"), false), ((He.ga K "NoObject"), false), ((He.ga K "NoEnd"), false)] : List (Addr × Bool)).all fun p => decide (PySem.W.kitOne K (.ref p.1) (.ref (He.ga K "NotChained")) = some p.2)), (([((He.ga K "BadText"), false), ((He.ga K "TooMany"), false), ((He.ga K "Twice"), false), ((He.ga K "NoClass"), false), ((He.ga K "NoOrder"), false), ((He.ga K "NotABase"), false), ((He.ga K "Final"), false), ((He.ga K "NotChained"), false), ((He.ga K "NotLawful"), true), ((He.ga K "BadKey"), false), ((He.ga K "BadName"), false), ((He.ga K "BadOrder"), false), ((He.ga K "BadDeed"), false), ((He.ga K "BadLimit"), false), ((He.ga K "Far"), false), ((He.ga K "Gap"), false), ((He.ga K "Long"), false), ((He.ga K "NoObject"), false), ((He.ga K "NoEnd"), false)] : List (Addr × Bool)).all fun p => decide (PySem.W.kitOne K (.ref p.1) (.ref (He.ga K "NotLawful")) = some p.2)), (([((He.ga K "BadText"), false), ((He.ga K "TooMany"), false), ((He.ga K "Twice"), false), ((He.ga K "NoClass"), false), ((He.ga K "NoOrder"), false), ((He.ga K "NotABase"), false), ((He.ga K "Final"), false), ((He.ga K "NotChained"), false), ((He.ga K "NotLawful"), false), ((He.ga K "BadKey"), true), ((He.ga K "BadName"), false), ((He.ga K "BadOrder"), false), ((He.ga K "BadDeed"), false), ((He.ga K "BadLimit"), false), ((He.ga K "Far"), false), ((He.ga K "Gap"), false), ((He.ga K "Long"), false), ((He.ga K "NoObject"), false), ((He.ga K "NoEnd"), false)] : List (Addr × Bool)).all fun p => decide (PySem.W.kitOne K (.ref p.1) (.ref (He.ga K "BadKey")) = some p.2)), (([((He.ga K "BadText"), false), ((He.ga K "TooMany"), false), ((He.ga K "Twice"), false), ((He.ga K "NoClass"), false), ((He.ga K "NoOrder"), false), ((He.ga K "NotABase"), false), ((He.ga K "Final"), false), ((He.ga K "NotChained"), false), ((He.ga K "NotLawful"), false), ((He.ga K "BadKey"), false), ((He.ga K "BadName"), true), ((He.ga K "BadOrder"), false), ((He.ga K "BadDeed"), false), ((He.ga K "BadLimit"), false), ((He.ga K "Far"), false), ((He.ga K "Gap"), false), ((He.ga K "Long"), false), ((He.ga K "NoObject"), false), ((He.ga K "NoEnd"), false)] : List (Addr × Bool)).all fun p => decide (PySem.W.kitOne K (.ref p.1) (.ref (He.ga K "BadName")) = some p.2))]
def ex21 (K : PySem.W.Frag) : List Bool := [(([((He.ga K "BadText"), false), ((He.ga K "TooMany"), false), ((He.ga K "Twice"), false), ((He.ga K "NoClass"), false), ((He.ga K "NoOrder"), false), ((He.ga K "NotABase"), false), ((He.ga K "Final"), false), ((He.ga K "NotChained"), false), ((He.ga K "NotLawful"), false), ((He.ga K "BadKey"), false), ((He.ga K "BadName"), false), ((He.ga K "BadOrder"), true), ((He.ga K "BadDeed"), false), ((He.ga K "BadLimit"), false), ((He.ga K "Far"), false), ((He.ga K "Gap"), false), ((He.ga K "Long"), false), ((He.ga K "NoObject"), false), ((He.ga K "NoEnd"), false)] : List (Addr × Bool)).all fun p => decide (PySem.W.kitOne K (.ref p.1) (.ref (He.ga K "BadOrder")) = some p.2)), (([((He.ga K "BadText"), false), ((He.ga K "TooMany"), false), ((He.ga K "Twice"), false), ((He.ga K "NoClass"), false), ((He.ga K "NoOrder"), false), ((He.ga K "NotABase"), false), ((He.ga K "Final"), false), ((He.ga K "NotChained"), false), ((He.ga K "NotLawful"), false), ((He.ga K "BadKey"), false), ((He.ga K "BadName"), false), ((He.ga K "BadOrder"), false), ((He.ga K "BadDeed"), true), ((He.ga K "BadLimit"), false), ((He.ga K "Far"), false), ((He.ga K "Gap"), false), ((He.ga K "Long"), false), ((He.ga K "NoObject"), false), ((He.ga K "NoEnd"), false)] : List (Addr × Bool)).all fun p => decide (PySem.W.kitOne K (.ref p.1) (.ref (He.ga K "BadDeed")) = some p.2)), (([((He.ga K "BadText"), false), ((He.ga K "TooMany"), false), ((He.ga K "Twice"), false), ((He.ga K "NoClass"), false), ((He.ga K "NoOrder"), false), ((He.ga K "NotABase"), false), ((He.ga K "Final"), false), ((He.ga K "NotChained"), false), ((He.ga K "NotLawful"), false), ((He.ga K "BadKey"), false), ((He.ga K "BadName"), false), ((He.ga K "BadOrder"), false), ((He.ga K "BadDeed"), false), ((He.ga K "BadLimit"), true), ((He.ga K "Far"), false), ((He.ga K "Gap"), false), ((He.ga K "Long"), false), ((He.ga K "NoObject"), false), ((He.ga K "NoEnd"), false)] : List (Addr × Bool)).all fun p => decide (PySem.W.kitOne K (.ref p.1) (.ref (He.ga K "BadLimit")) = some p.2)), (([((He.ga K "BadText"), false), ((He.ga K "TooMany"), false), ((He.ga K "Twice"), false), ((He.ga K "NoClass"), false), ((He.ga K "NoOrder"), false), ((He.ga K "NotABase"), false), ((He.ga K "Final"), false), ((He.ga K "NotChained"), false), ((He.ga K "NotLawful"), false), ((He.ga K "BadKey"), false), ((He.ga K "BadName"), false), ((He.ga K "BadOrder"), false), ((He.ga K "BadDeed"), false), ((He.ga K "BadLimit"), false), ((He.ga K "Far"), true), ((He.ga K "Gap"), false), ((He.ga K "Long"), false), ((He.ga K "NoObject"), false), ((He.ga K "NoEnd"), false)] : List (Addr × Bool)).all fun p => decide (PySem.W.kitOne K (.ref p.1) (.ref (He.ga K "Far")) = some p.2)), (([((He.ga K "BadText"), false), ((He.ga K "TooMany"), false), ((He.ga K "Twice"), false), ((He.ga K "NoClass"), false), ((He.ga K "NoOrder"), false), ((He.ga K "NotABase"), false), ((He.ga K "Final"), false), ((He.ga K "NotChained"), false), ((He.ga K "NotLawful"), false), ((He.ga K "BadKey"), false), ((He.ga K "BadName"), false), ((He.ga K "BadOrder"), false), ((He.ga K "BadDeed"), false), ((He.ga K "BadLimit"), false), ((He.ga K "Far"), false), ((He.ga K "Gap"), true), ((He.ga K "Long"), false), ((He.ga K "NoObject"), false), ((He.ga K "NoEnd"), false)] : List (Addr × Bool)).all fun p => decide (PySem.W.kitOne K (.ref p.1) (.ref (He.ga K "Gap")) = some p.2)), (([((He.ga K "BadText"), false), ((He.ga K "TooMany"), false), ((He.ga K "Twice"), false), ((He.ga K "NoClass"), false), ((He.ga K "NoOrder"), false), ((He.ga K "NotABase"), false), ((He.ga K "Final"), false), ((He.ga K "NotChained"), false), ((He.ga K "NotLawful"), false), ((He.ga K "BadKey"), false), ((He.ga K "BadName"), false), ((He.ga K "BadOrder"), false), ((He.ga K "BadDeed"), false), ((He.ga K "BadLimit"), false), ((He.ga K "Far"), false), ((He.ga K "Gap"), false), ((He.ga K "Long"), true), ((He.ga K "NoObject"), false), ((He.ga K "NoEnd"), false)] : List (Addr × Bool)).all fun p => decide (PySem.W.kitOne K (.ref p.1) (.ref (He.ga K "Long")) = some p.2)), (([((He.ga K "BadText"), false), ((He.ga K "TooMany"), false), ((He.ga K "Twice"), false), ((He.ga K "NoClass"), false), ((He.ga K "NoOrder"), false), ((He.ga K "NotABase"), false), ((He.ga K "Final"), false), ((He.ga K "NotChained"), false), ((He.ga K "NotLawful"), false), ((He.ga K "BadKey"), false), ((He.ga K "BadName"), false), ((He.ga K "BadOrder"), false), ((He.ga K "BadDeed"), false), ((He.ga K "BadLimit"), false), ((He.ga K "Far"), false), ((He.ga K "Gap"), false), ((He.ga K "Long"), false), ((He.ga K "NoObject"), true), ((He.ga K "NoEnd"), false)] : List (Addr × Bool)).all fun p => decide (PySem.W.kitOne K (.ref p.1) (.ref (He.ga K "NoObject")) = some p.2)), (([((He.ga K "BadText"), false), ((He.ga K "TooMany"), false), ((He.ga K "Twice"), false), ((He.ga K "NoClass"), false), ((He.ga K "NoOrder"), false), ((He.ga K "NotABase"), false), ((He.ga K "Final"), false), ((He.ga K "NotChained"), false), ((He.ga K "NotLawful"), false), ((He.ga K "BadKey"), false), ((He.ga K "BadName"), false), ((He.ga K "BadOrder"), false), ((He.ga K "BadDeed"), false), ((He.ga K "BadLimit"), false), ((He.ga K "Far"), false), ((He.ga K "Gap"), false), ((He.ga K "Long"), false), ((He.ga K "NoObject"), false), ((He.ga K "NoEnd"), true)] : List (Addr × Bool)).all fun p => decide (PySem.W.kitOne K (.ref p.1) (.ref (He.ga K "NoEnd")) = some p.2)), (([((He.ga K "BadText"), true), ((He.ga K "TooMany"), true), ((He.ga K "Twice"), true), ((He.ga K "NoClass"), true), ((He.ga K "NoOrder"), true), ((He.ga K "NotABase"), true), ((He.ga K "Final"), true), ((He.ga K "NotChained"), true), ((He.ga K "NotLawful"), true), ((He.ga K "BadKey"), true), ((He.ga K "BadName"), true), ((He.ga K "BadOrder"), true), ((He.ga K "BadDeed"), true), ((He.ga K "BadLimit"), true), ((He.ga K "Far"), true), ((He.ga K "Gap"), false), ((He.ga K "Long"), false), ((He.ga K "NoObject"), false), ((He.ga K "NoEnd"), false)] : List (Addr × Bool)).all fun p => decide (PySem.W.kitOne K (.ref p.1) (.ref (He.ga K "EarlyError")) = some p.2)), (([((He.ga K "BadText"), true), ((He.ga K "TooMany"), true), ((He.ga K "Twice"), true), ((He.ga K "NoClass"), true), ((He.ga K "NoOrder"), true), ((He.ga K "NotABase"), true), ((He.ga K "Final"), true), ((He.ga K "NotChained"), true), ((He.ga K "NotLawful"), true), ((He.ga K "BadKey"), true), ((He.ga K "BadName"), true), ((He.ga K "BadOrder"), true), ((He.ga K "BadDeed"), true), ((He.ga K "BadLimit"), true), ((He.ga K "Far"), true), ((He.ga K "Gap"), false), ((He.ga K "Long"), false), ((He.ga K "NoObject"), false), ((He.ga K "NoEnd"), false)] : List (Addr × Bool)).all fun p => decide (PySem.W.kitOne K (.ref p.1) (.type "ValueError") = some p.2)), (([((He.ga K "BadText"), false), ((He.ga K "TooMany"), false), ((He.ga K "Twice"), false), ((He.ga K "NoClass"), false), ((He.ga K "NoOrder"), false), ((He.ga K "NotABase"), false), ((He.ga K "Final"), false), ((He.ga K "NotChained"), false), ((He.ga K "NotLawful"), false), ((He.ga K "BadKey"), false), ((He.ga K "BadName"), false), ((He.ga K "BadOrder"), false), ((He.ga K "BadDeed"), false), ((He.ga K "BadLimit"), false), ((He.ga K "Far"), false), ((He.ga K "Gap"), true), ((He.ga K "Long"), true), ((He.ga K "NoObject"), true), ((He.ga K "NoEnd"), false)] : List (Addr × Bool)).all fun p => decide (PySem.W.kitOne K (.ref p.1) (.type "RuntimeError") = some p.2)), (([((He.ga K "BadText"), false), ((He.ga K "TooMany"), false), ((He.ga K "Twice"), false), ((He.ga K "NoClass"), false), ((He.ga K "NoOrder"), false), ((He.ga K "NotABase"), false), ((He.ga K "Final"), false), ((He.ga K "NotChained"), false), ((He.ga K "NotLawful"), false), ((He.ga K "BadKey"), false), ((He.ga K "BadName"), false), ((He.ga K "BadOrder"), false), ((He.ga K "BadDeed"), false), ((He.ga K "BadLimit"), false), ((He.ga K "Far"), false), ((He.ga K "Gap"), false), ((He.ga K "Long"), false), ((He.ga K "NoObject"), false), ((He.ga K "NoEnd"), true)] : List (Addr × Bool)).all fun p => decide (PySem.W.kitOne K (.ref p.1) (.type "LookupError") = some p.2)), decide (PySem.W.exmOne K (.ref (He.ga K "Final")) (.ref (He.ga K "Final")) = some true), decide (PySem.W.exmOne K (.ref (He.ga K "NotChained")) (.ref (He.ga K "Final")) = some false), decide (PySem.W.exmOne K (.ref (He.ga K "NotChained")) (.ref (He.ga K "NotChained")) = some true)]
def ex22 (K : PySem.W.Frag) : List Bool := [decide (PySem.W.exmOne K (.ref (He.ga K "Gap")) (.ref (He.ga K "Final")) = some false), decide (PySem.W.exmOne K (.ref (He.ga K "Gap")) (.ref (He.ga K "NotChained")) = some false), decide (PySem.W.exmOne K (.ref (He.ga K "Gap")) (.ref (He.ga K "Gap")) = some true), decide (PySem.W.exmOne K (.ref (He.ga K "NoEnd")) (.ref (He.ga K "Final")) = some false), decide (PySem.W.exmOne K (.ref (He.ga K "NoEnd")) (.ref (He.ga K "NotChained")) = some false), decide (PySem.W.exmOne K (.ref (He.ga K "NoEnd")) (.ref (He.ga K "Gap")) = some false), decide (PySem.W.exmOne K (.ref (He.ga K "NoEnd")) (.ref (He.ga K "NoEnd")) = some true), decide (PySem.W.findIn K (.ref (He.ga K "BadText")) "__init__" = some (some (.ref (He.fAd K ("BadText", some "__init__"))))), decide (PySem.W.typeIn K (.ref (He.fAd K ("BadText", some "__init__"))) = some (.type "function")), decide (PySem.W.findIn K (.ref (He.ga K "TooMany")) "__init__" = some (some (.ref (He.fAd K ("TooMany", some "__init__"))))), decide (PySem.W.typeIn K (.ref (He.fAd K ("TooMany", some "__init__"))) = some (.type "function")), decide (PySem.W.findIn K (.ref (He.ga K "Twice")) "__init__" = some (some (.ref (He.fAd K ("Twice", some "__init__"))))), decide (PySem.W.typeIn K (.ref (He.fAd K ("Twice", some "__init__"))) = some (.type "function")), decide (PySem.W.findIn K (.ref (He.ga K "NoClass")) "__init__" = some (some (.ref (He.fAd K ("NoClass", some "__init__"))))), decide (PySem.W.typeIn K (.ref (He.fAd K ("NoClass", some "__init__"))) = some (.type "function"))]
def ex23 (K : PySem.W.Frag) : List Bool := [decide (PySem.W.findIn K (.ref (He.ga K "NoOrder")) "__init__" = some (some (.ref (He.fAd K ("NoOrder", some "__init__"))))), decide (PySem.W.typeIn K (.ref (He.fAd K ("NoOrder", some "__init__"))) = some (.type "function")), decide (PySem.W.findIn K (.ref (He.ga K "NotABase")) "__init__" = some (some (.ref (He.fAd K ("NotABase", some "__init__"))))), decide (PySem.W.typeIn K (.ref (He.fAd K ("NotABase", some "__init__"))) = some (.type "function")), decide (PySem.W.findIn K (.ref (He.ga K "Final")) "__init__" = some (some (.ref (He.fAd K ("Final", some "__init__"))))), decide (PySem.W.typeIn K (.ref (He.fAd K ("Final", some "__init__"))) = some (.type "function")), decide (PySem.W.findIn K (.ref (He.ga K "NotChained")) "__init__" = some (some (.ref (He.fAd K ("NotChained", some "__init__"))))), decide (PySem.W.typeIn K (.ref (He.fAd K ("NotChained", some "__init__"))) = some (.type "function")), decide (PySem.W.findIn K (.ref (He.ga K "NotLawful")) "__init__" = some (some (.ref (He.fAd K ("NotLawful", some "__init__"))))), decide (PySem.W.typeIn K (.ref (He.fAd K ("NotLawful", some "__init__"))) = some (.type "function")), decide (PySem.W.findIn K (.ref (He.ga K "BadKey")) "__init__" = some (some (.ref (He.fAd K ("BadKey", some "__init__"))))), decide (PySem.W.typeIn K (.ref (He.fAd K ("BadKey", some "__init__"))) = some (.type "function")), decide (PySem.W.findIn K (.ref (He.ga K "BadName")) "__init__" = some (some (.ref (He.fAd K ("BadName", some "__init__"))))), decide (PySem.W.typeIn K (.ref (He.fAd K ("BadName", some "__init__"))) = some (.type "function")), decide (PySem.W.findIn K (.ref (He.ga K "BadOrder")) "__init__" = some (some (.ref (He.fAd K ("BadOrder", some "__init__")))))]
def ex24 (K : PySem.W.Frag) : List Bool := [decide (PySem.W.typeIn K (.ref (He.fAd K ("BadOrder", some "__init__"))) = some (.type "function")), decide (PySem.W.findIn K (.ref (He.ga K "BadDeed")) "__init__" = some (some (.ref (He.fAd K ("BadDeed", some "__init__"))))), decide (PySem.W.typeIn K (.ref (He.fAd K ("BadDeed", some "__init__"))) = some (.type "function")), decide (PySem.W.findIn K (.ref (He.ga K "BadLimit")) "__init__" = some (some (.ref (He.fAd K ("BadLimit", some "__init__"))))), decide (PySem.W.typeIn K (.ref (He.fAd K ("BadLimit", some "__init__"))) = some (.type "function")), decide (PySem.W.findIn K (.ref (He.ga K "Far")) "__init__" = some (some (.ref (He.fAd K ("Far", some "__init__"))))), decide (PySem.W.typeIn K (.ref (He.fAd K ("Far", some "__init__"))) = some (.type "function")), decide (PySem.W.findIn K (.ref (He.ga K "Gap")) "__init__" = some (some (.ref (He.fAd K ("Gap", some "__init__"))))), decide (PySem.W.typeIn K (.ref (He.fAd K ("Gap", some "__init__"))) = some (.type "function")), decide (PySem.W.findIn K (.ref (He.ga K "Long")) "__init__" = some (some (.ref (He.fAd K ("Long", some "__init__"))))), decide (PySem.W.typeIn K (.ref (He.fAd K ("Long", some "__init__"))) = some (.type "function")), decide (PySem.W.findIn K (.ref (He.ga K "NoEnd")) "__init__" = some (some (.ref (He.fAd K ("NoEnd", some "__init__"))))), decide (PySem.W.typeIn K (.ref (He.fAd K ("NoEnd", some "__init__"))) = some (.type "function")), decide (PySem.W.nsIn K mainGlobals "_law_bag" = some (some (.ref (He.ga K "_law_bag")))), decide (PySem.W.nsIn K mainGlobals "_law_draw" = some (some (.ref (He.ga K "_law_draw"))))]
def ex25 (K : PySem.W.Frag) : List Bool := [decide (PySem.W.nsIn K mainGlobals "_law_value" = some (some (.ref (He.ga K "_law_value")))), decide (PySem.W.nsIn K mainGlobals "_law_kinds" = some (some (.ref (He.ga K "_law_kinds")))), decide (PySem.W.nsIn K mainGlobals "_law_raised" = some (some (.ref (He.ga K "_law_raised")))), decide (PySem.W.nsIn K mainGlobals "law" = some (some (.ref (He.ga K "law"))))]
def exs : List (PySem.W.Frag → List Bool) := ex0 :: ex1 :: ex2 :: ex3 :: ex4 :: ex5 :: ex6 :: ex7 :: ex8 :: ex9 :: ex10 :: ex11 :: ex12 :: ex13 :: ex14 :: ex15 :: ex16 :: ex17 :: ex18 :: ex19 :: ex20 :: ex21 :: ex22 :: ex23 :: ex24 :: ex25 :: []
def exP0 (K : PySem.W.Frag) : Bool := (ex0 :: ex1 :: ex2 :: ex3 :: ex4 :: ex5 :: ex6 :: ex7 :: ex8 :: ex9 :: ex10 :: ex11 :: ex12 :: ex13 :: ex14 :: ex15 :: ex16 :: ex17 :: ex18 :: ex19 :: ex20 :: ex21 :: ex22 :: ex23 :: ex24 :: ex25 :: []).all fun f => (f K).all fun b => b
def defP (K : PySem.W.Frag) : Bool := fns.all fun d => d.ok K
def allP (K : PySem.W.Frag) : Bool := defP K && (exP0 K)
def bsL : List (PySem.W.Frag → Bool) := allP :: []
def loose0 : List PySem.Str := ["__name__", "EarlyError", "BadText", "TooMany", "Twice", "NoClass", "NoOrder", "NotABase", "Final", "NotChained", "NotLawful", "BadKey"]
def loose1 : List PySem.Str := ["BadName", "BadOrder", "BadDeed", "BadLimit", "Far", "Gap", "Long", "NoObject", "NoEnd", "_law_bag", "_law_draw", "_law_one"]
def loose2 : List PySem.Str := ["_law_value", "_law_kinds", "_law_raised"]
def loose : List PySem.Str := loose0 ++ (loose1 ++ (loose2))
def asL0 : List Addr := [3, 6, 4, 24, 44, 63, 82, 101, 120, 139, 158, 177, 196, 215, 234, 253, 272, 291, 310, 329, 349, 362, 382, 392, 399, 406, 413, 418, 425, 430, 0, 23, 43, 62, 81, 100, 119, 138, 157, 176]
def asL1 : List Addr := [195, 214, 233, 252, 271, 290, 309, 328, 348, 361, 381, 391, 398, 405, 412, 417, 424, 429, 22, 25, 41, 42, 60, 61, 79, 80, 98, 99, 117, 118, 136, 137, 155, 156, 174, 175, 193, 194, 212, 213]
def asL2 : List Addr := [231, 232, 250, 251, 269, 270, 288, 289, 307, 308, 326, 327, 330, 346, 347, 350, 360, 363, 379, 380, 383, 386, 387, 388, 389, 390, 393, 394, 395, 396, 397, 400, 401, 402, 403, 404, 407, 408, 409, 410]
def asL3 : List Addr := [411, 414, 415, 416, 419, 420, 421, 422, 423, 426, 427, 428, 40, 59, 78, 97, 116, 135, 154, 173, 192, 211, 230, 249, 268, 287, 306, 325, 345, 378, 35, 36, 37, 38, 39, 54, 55, 56, 57, 58]
def asL4 : List Addr := [73, 74, 75, 76, 77, 92, 93, 94, 95, 96, 111, 112, 113, 114, 115, 130, 131, 132, 133, 134, 149, 150, 151, 152, 153, 168, 169, 170, 171, 172, 187, 188, 189, 190, 191, 206, 207, 208, 209, 210]
def asL5 : List Addr := [225, 226, 227, 228, 229, 244, 245, 246, 247, 248, 263, 264, 265, 266, 267, 282, 283, 284, 285, 286, 301, 302, 303, 304, 305, 320, 321, 322, 323, 324, 340, 341, 342, 343, 344, 373, 374, 375, 376, 377]
def asL6 : List Addr := [2]
def asL : List Addr := asL0 ++ (asL1 ++ (asL2 ++ (asL3 ++ (asL4 ++ (asL5 ++ (asL6))))))
abbrev Rr : PySem.W.OpenRow := PySem.W.OpenLaw.row PySem.Challenge.rw_earlyfields_k15_errors_by_hand
abbrev qq : Program := PySem.W.view Rr.prog [28]
def frL (s : PySem.W.SharedT) : PySem.W.Frag := frK asL (HandSHeadRun.getT s)
def obL (s : PySem.W.SharedT) : AlK := (fns.map fun d => fnX (frL s) (d.at_ (frL s)), bsL.map fun b => b (frL s))
theorem obL_eq (s : PySem.W.SharedT) : obL s = (hookK asL fns bsL).obs s.abs := obsK_eq (HandSHeadRun.getT_eq s)
noncomputable def endL (w : World) (os : OsState) : Option PySem.W.SharedT := HandSHeadRun.endF (HandSHeadRun.stepQ (HandSHeadRun.denQ HandSHeadRun.tabQ) Rr.prog w) 30000 Rr.prog w os
section
open PySem.W PySem.Calls
set_option maxHeartbeats 0 in
theorem runF (w : World) (os : OsState) : (endL w os).map (fun s => (HandSHeadRun.looksF Rr.prog (boot_heap w.params) s.abs, HandSHeadRun.seenQ qq loose (importedModules Rr.prog.main.body) (fun s => xlAt qq [] s && recOk Rr.toRowW.records s) s.abs, fns.map fun d => fnX (frL s) (d.at_ (frL s)))) = some (true, openGood qq loose, fns.map DefS.val) := by
  kernel_rfl
end
set_option maxHeartbeats 0 in
theorem run_allP (w : World) (os : OsState) : (endL w os).map (fun s => allP (frL s)) = some true := by
  kernel_rfl
theorem runL (w : World) : HandSHeadRun.RunEq Rr qq (hookK asL fns bsL) obL 30000 loose w := by
  intro os
  refine run_join (κ := frL) (runF w os) fun b hb => ?_
  simp only [bsL, List.mem_cons, List.not_mem_nil, or_false] at hb
  rcases hb with rfl
  · exact run_allP w os


/-! ### 0. common words of our own -/
/-- a def of the module behind the top, under its name -/
structure Dfn (K : PySem.W.Frag) (mg : Str → Option Value) (x : Str) (st : Stmt) (ps : List Str) : Prop where
  ex : ∃ (f : Addr) (fd : FuncData), Fun K x x st f fd ∧ mg x = some (.ref f) ∧ Binds K fd ps []
theorem vals_of_abs : ∀ (us : List Value) (vs : List V), us.map absV = vs.map some → Vals vs us
  | [], [], _ => .nil
  | [], _ :: _, h => by cases h
  | _ :: _, [], h => by cases h
  | u :: us, v :: vs, h => by
    rw [List.map_cons, List.map_cons] at h
    injection h with h1 h2
    refine .cons ?_ (vals_of_abs us vs h2)
    cases u <;> first | (cases h1; rfl) | (cases h1; exact ⟨_, rfl⟩) | cases h1
section
variable {P : Program} {w : World} {K : PySem.W.Frag} {mg : Str → Option Value} {base : Heap}
theorem cal_of {x : Str} {st : Stmt} {N ps : List Str} {k : Nat} {sp : Sp} (D : Dfn K mg x st ps) (S : FnScope N ps (defScope st)) (len : ∀ vs H Q E, sp vs H Q E → vs.length = ps.length)
    (hbody : ∀ (f : Addr) (cdv : Value) (A : Around) (outer : List Env) (s : Shared) (H : Hp) (vs : List V) (Q : VK) (E : XK), Room k (A.deeper (envOfC x (defScope st) s.heap.objs.size f cdv)) → sp vs H Q E →
      ∃ t, PSs (cxOf CX0 P w K mg base N x (defScope st) f cdv A outer s H E).nox (defBody st) t ∧ t { nx := fun _ H' => Q .non H', rt := Q } (start N vs) H) : C8.Cal P w K mg base (k + 1) x sp [] := by
  obtain ⟨f, fd, F, hm, b⟩ := D.ex
  exact ⟨f, fd, ps, [], F.ok S len fun cdv A outer s H vs Q E hr h => hbody f cdv A outer s H vs Q E hr h, hm, F.kp, b, .nil⟩
end
section
variable {X : Cx} {k j : Nat} {x : Str} {sp : Sp} {p pos : Pos}
/-- f() -/
theorem pe_c0 {dvs : List V} (c : C8.Cal X.prog X.w X.K X.mg X.base k x sp dvs) (hr : Room j X.A) (hk : k ≤ j) (hg : Gl X x) (hdb : (x == ("__debug__" : Str)) = false := by decide) :
    PE X (.Call (.Name x p) [] [] pos) (tCall sp dvs E0 tNil) := by
  obtain ⟨f, fd, ps, ds, F, hm, kp, b, d⟩ := c.ex
  exact pe_call0 F (hr.mono hk) hg hm kp b d pass0 hdb
end
/-- within a comprehension the written part is said, for its own context is not known outside -/
theorem bmK {X : Cx} {K : PySem.W.Frag} {e : Expr} {to : TE} {t : TA} {T : String} {r : V → List V → Hp → VK → Prop} (hK : X.K = K) (h : PE X e (tBM X.K T r to t)) : PE X e (tBM K T r to t) := hK ▸ h

/-! ### M1. deep values, what bears them -/
inductive D where
  | non | bl (b : Bool) | int (i : Int) | str (x : List Nat) | ty (n : String)
  | tup (xs : List D) | tpq (xs : List D) | lst (xs : List D) | lsq (xs : List D) | dk (es : List (Key × D)) | dt (es : List (List Key × D))
  | obj (c : Str) (fs : List (Str × D)) | exn (c : Str) (fs : List (Str × D))
abbrev SameH (H H' : Hp) : Prop := ∀ (a : Addr) (o : HO), H a = some o → H' a = some o
def mask (H : Hp) (B : Addr → Bool) : Hp := fun a => if B a = true then none else H a
mutual
inductive Rep (K : PySem.W.Frag) (ca : Str → Addr) (H : Hp) : V → D → Prop
  | non : Rep K ca H .non .non
  | bl (b : Bool) : Rep K ca H (.bl b) (.bl b)
  | int (i : Int) : Rep K ca H (.int i) (.int i)
  | str (x : List Nat) : Rep K ca H (.str (S x)) (.str x)
  | ty (n : String) : Rep K ca H (.ty n) (.ty n)
  | tup {a : Addr} {xs : List V} {ds : List D} : H a = some (.tup xs) → RepA K ca H xs ds → Rep K ca H (.ref a) (.tup ds)
  | tpq {a : Addr} {xs : List V} {ds : List D} : SqT K H a xs → RepA K ca H xs ds → Rep K ca H (.ref a) (.tpq ds)
  | lst {a : Addr} {xs : List V} {ds : List D} : H a = some (.lst xs) → RepA K ca H xs ds → Rep K ca H (.ref a) (.lst ds)
  | lsq {a : Addr} {xs : List V} {ds : List D} : SqL K H a xs → RepA K ca H xs ds → Rep K ca H (.ref a) (.lsq ds)
  | dk {a : Addr} {kvs : List (Key × V)} {es : List (Key × D)} : Rd H a (.dK kvs) → kvs.map (·.1) = es.map (·.1) → RepA K ca H (kvs.map (·.2)) (es.map (·.2)) → Rep K ca H (.ref a) (.dk es)
  | dt {a : Addr} {kvs : List (List Key × V)} {es : List (List Key × D)} : Rd H a (.dT kvs) → kvs.map (·.1) = es.map (·.1) → RepA K ca H (kvs.map (·.2)) (es.map (·.2)) → Rep K ca H (.ref a) (.dt es)
  | obj {a dx : Addr} {c : Str} {fv : List (Str × V)} {fs : List (Str × D)} : H a = some (.ins (ca c) dx fv) → fv.map (·.1) = fs.map (·.1) → RepA K ca H (fv.map (·.2)) (fs.map (·.2)) → Rep K ca H (.ref a) (.obj c fs)
  | exn {a dx : Addr} {c : Str} {fv : List (Str × V)} {fs : List (Str × D)} : H a = some (exo a (ca c) (some dx)) → H dx = some (exd dx fv) → fv.map (·.1) = fs.map (·.1) → RepA K ca H (fv.map (·.2)) (fs.map (·.2)) → Rep K ca H (.ref a) (.exn c fs)
  | exn0 {a : Addr} {c : Str} : H a = some (ExO (.ref (ca c)) a) → Rep K ca H (.ref a) (.exn c [])
inductive RepA (K : PySem.W.Frag) (ca : Str → Addr) (H : Hp) : List V → List D → Prop
  | nil : RepA K ca H [] []
  | cons {v : V} {vs : List V} {d : D} {ds : List D} : Rep K ca H v d → RepA K ca H vs ds → RepA K ca H (v :: vs) (d :: ds)
end
section
variable {K : PySem.W.Frag} {ca : Str → Addr} {H H' : Hp} {B B' : Addr → Bool}
theorem rd_up {a : Addr} {u : HO} (s : SameH H H') (h : Rd H a u) : Rd H' a u := by
  rcases h with h | ⟨o, h⟩
  · exact .inl (s _ _ h)
  · exact .inr ⟨o, s _ _ h⟩
theorem sqL_up {a : Addr} {xs : List V} (s : SameH H H') (h : SqL K H a xs) : SqL K H' a xs := h.imp (rd_up s) id
theorem sqT_up {a : Addr} {xs : List V} (s : SameH H H') (h : SqT K H a xs) : SqT K H' a xs := h.imp (rd_up s) id
mutual
theorem Rep.up (s : SameH H H') : ∀ {v : V} {d : D}, Rep K ca H v d → Rep K ca H' v d
  | _, _, .non => .non
  | _, _, .bl b => .bl b
  | _, _, .int i => .int i
  | _, _, .str x => .str x
  | _, _, .ty n => .ty n
  | _, _, .tup h r => .tup (s _ _ h) (RepA.up s r)
  | _, _, .tpq h r => .tpq (sqT_up s h) (RepA.up s r)
  | _, _, .lst h r => .lst (s _ _ h) (RepA.up s r)
  | _, _, .lsq h r => .lsq (sqL_up s h) (RepA.up s r)
  | _, _, .dk h e r => .dk (rd_up s h) e (RepA.up s r)
  | _, _, .dt h e r => .dt (rd_up s h) e (RepA.up s r)
  | _, _, .obj h e r => .obj (s _ _ h) e (RepA.up s r)
  | _, _, .exn h g e r => .exn (s _ _ h) (s _ _ g) e (RepA.up s r)
  | _, _, .exn0 h => .exn0 (s _ _ h)
theorem RepA.up (s : SameH H H') : ∀ {vs : List V} {ds : List D}, RepA K ca H vs ds → RepA K ca H' vs ds
  | _, _, .nil => .nil
  | _, _, .cons h r => .cons (Rep.up s h) (RepA.up s r)
end
theorem RepA.len {vs : List V} {ds : List D} : RepA K ca H vs ds → vs.length = ds.length
  | .nil => rfl
  | .cons _ r => congrArg (· + 1) (RepA.len r)
theorem RepA.app {vs ws : List V} {ds es : List D} : RepA K ca H vs ds → RepA K ca H ws es → RepA K ca H (vs ++ ws) (ds ++ es)
  | .nil, s => s
  | .cons h r, s => .cons h (RepA.app r s)
theorem RepA.get {vs : List V} {ds : List D} {i : Nat} {d : D} (r : RepA K ca H vs ds) (e : ds[i]? = some d) : ∃ v, vs[i]? = some v ∧ Rep K ca H v d := by
  induction vs generalizing ds i with
  | nil => cases r; simp at e
  | cons v vs ih =>
    cases r with
    | cons h r =>
      cases i with
      | zero => simp at e; subst e; exact ⟨v, rfl, h⟩
      | succ i => exact ih r (by simpa using e)
theorem RepA.drop {vs : List V} {ds : List D} (n : Nat) (r : RepA K ca H vs ds) : RepA K ca H (vs.drop n) (ds.drop n) := by
  induction n generalizing vs ds with
  | zero => exact r
  | succ n ih => cases r with
    | nil => exact .nil
    | cons h r => exact ih r
theorem RepA.take {vs : List V} {ds : List D} (n : Nat) (r : RepA K ca H vs ds) : RepA K ca H (vs.take n) (ds.take n) := by
  induction n generalizing vs ds with
  | zero => exact .nil
  | succ n ih => cases r with
    | nil => exact .nil
    | cons h r => exact .cons h (ih r)
theorem RepA.set {vs : List V} {ds : List D} {v : V} {d : D} (n : Nat) (h : Rep K ca H v d) (r : RepA K ca H vs ds) : RepA K ca H (vs.set n v) (ds.set n d) := by
  induction n generalizing vs ds with
  | zero => cases r with
    | nil => exact .nil
    | cons _ r => exact .cons h r
  | succ n ih => cases r with
    | nil => exact .nil
    | cons h r => exact .cons h (ih r)
theorem RepA.ints (ns : List Int) : RepA K ca H (ns.map V.int) (ns.map D.int) := by
  induction ns with
  | nil => exact .nil
  | cons n ns ih => exact .cons (.int n) ih
theorem mask_le : SameH (mask H B) H := fun a o e => by
  unfold mask at e
  split at e
  · cases e
  · exact e
theorem mask_sub (h : ∀ a, B' a = true → B a = true) : SameH (mask H B) (mask H B') := fun a o e => by
  unfold mask at e ⊢
  split at e
  · cases e
  · rw [if_neg (fun q => by have := h a q; contradiction)]; exact e
theorem mask_of (s : ∀ a o, B a = false → H a = some o → H' a = some o) : SameH (mask H B) (mask H' B) := fun a o e => by
  unfold mask at e ⊢
  split at e
  · cases e
  · rename_i h
    rw [if_neg h]
    exact s a o (by simpa using h) e
theorem mask_up (s : SameH H H') : SameH (mask H B) (mask H' B) := mask_of fun a o _ e => s a o e
theorem mask_get {a : Addr} {o : HO} (h : B a = false) (e : H a = some o) : mask H B a = some o := by
  unfold mask; rw [if_neg (by rw [h]; exact Bool.false_ne_true)]; exact e
end
theorem SameH.rfl {H : Hp} : SameH H H := fun _ _ e => e
theorem SameH.tr {H H1 H2 : Hp} (s : SameH H H1) (t : SameH H1 H2) : SameH H H2 := fun a o e => t a o (s a o e)
theorem SameH.new {H : Hp} {p : Addr} {o : HO} (h : H p = none) : SameH H (upd H p o) := fun c u e => by rw [upd_ne (ne_of_none e h)]; exact e
/-- the content of an object that may be changed -/
def Ct (K : PySem.W.Frag) (ca : Str → Addr) (H : Hp) : HO → D → Prop
  | .lst xs, .lst ds => RepA K ca H xs ds
  | .dK kvs, .dk es => kvs.map (·.1) = es.map (·.1) ∧ RepA K ca H (kvs.map (·.2)) (es.map (·.2))
  | .dT kvs, .dt es => kvs.map (·.1) = es.map (·.1) ∧ RepA K ca H (kvs.map (·.2)) (es.map (·.2))
  | .ins C _ fv, .obj c fs => C = ca c ∧ fv.map (·.1) = fs.map (·.1) ∧ RepA K ca H (fv.map (·.2)) (fs.map (·.2))
  | _, _ => False
section
variable {K : PySem.W.Frag} {ca : Str → Addr} {H H' : Hp} {B B' : Addr → Bool}
theorem Ct.up (s : SameH H H') {o : HO} {d : D} (h : Ct K ca H o d) : Ct K ca H' o d := by
  cases o <;> cases d <;> first
    | exact h.elim
    | exact RepA.up s h
    | exact ⟨h.1, RepA.up s h.2⟩
    | exact ⟨h.1, h.2.1, RepA.up s h.2.2⟩
theorem Ct.rep {H1 : Hp} {a : Addr} {o : HO} {d : D} (s : SameH H H1) (e : H1 a = some o) (h : Ct K ca H o d) : Rep K ca H1 (.ref a) d := by
  have h := Ct.up s h
  cases o <;> cases d <;> first
    | exact h.elim
    | exact .lst e h
    | exact .dk (.inl e) h.1 h.2
    | exact .dt (.inl e) h.1 h.2
    | (obtain ⟨rfl, h1, h2⟩ := h; exact .obj e h1 h2)
end
/-! ### M2. the state: slots, what they hold, what may be changed -/
/-- a slot: empty; a value; an object of one's own; the caller's object that may be changed; a thing that is read only -/
inductive Sl where
  | e | v (d : D) | o (d : D) | i (d : D) | b (d : D)
abbrev Env' := List Sl
inductive Rs (α : Type) where
  | no | ok (a : α) | er (c : Str) (fs : List (Str × D))
/-- the surroundings of a body: the written part, the classes' places, the heap at the entry, the caller's objects by slot, what is not to be leant on, the wish for an error -/
structure Cn where
  K : PySem.W.Frag
  ca : Str → Addr
  H0 : Hp
  C : Nat → Option Addr
  B0 : Addr → Bool
  E : XK
def Bor (K : PySem.W.Frag) (ca : Str → Addr) (H : Hp) (B : Addr → Bool) (v : V) (d : D) : Prop :=
  Rep K ca (mask H B) v d ∨ ∃ a o, v = .ref a ∧ H a = some o ∧ Ct K ca (mask H B) o d
theorem Bor.rep {K : PySem.W.Frag} {ca : Str → Addr} {H : Hp} {B : Addr → Bool} {v : V} {d : D} (h : Bor K ca H B v d) : Rep K ca H v d := by
  rcases h with h | ⟨a, o, rfl, e, c⟩
  · exact h.up mask_le
  · exact c.rep mask_le e
def SlOk (N : Cn) (B : Addr → Bool) (H : Hp) (j : Nat) (w : Option V) : Sl → Prop
  | .e => True
  | .v d => ∃ v, w = some v ∧ Rep N.K N.ca (mask H B) v d
  | .o d => ∃ a o, w = some (.ref a) ∧ B a = true ∧ N.B0 a = false ∧ N.H0 a = none ∧ H a = some o ∧ Ct N.K N.ca (mask H B) o d
  | .i d => ∃ a o, w = some (.ref a) ∧ N.C j = some a ∧ H a = some o ∧ Ct N.K N.ca (mask H B) o d
  | .b d => ∃ v, w = some v ∧ (Rep N.K N.ca (mask H B) v d ∨ ∃ a o, v = .ref a ∧ N.B0 a = true ∧ (∀ j, N.C j ≠ some a) ∧ H a = some o ∧ Ct N.K N.ca (mask H B) o d)
structure Iv (N : Cn) (B : Addr → Bool) (ρ : Env') (σ : L2.St) (H : Hp) : Prop where
  fr : ∀ b o, (∀ j, N.C j ≠ some b) → N.H0 b = some o → H b = some o
  cb : ∀ j b, N.C j = some b → N.B0 b = true
  ci : ∀ j k b, N.C j = some b → N.C k = some b → j = k
  ck : ∀ j b, N.C j = some b → ∃ d, ρ[j]? = some (Sl.i d)
  bb : ∀ b, N.B0 b = true → B b = true
  bh : ∀ b, N.B0 b = true → N.H0 b ≠ none
  tr : ∀ b, B b = true → H b ≠ none
  ln : ρ.length = σ.length
  sl : ∀ (j : Nat) (x : Sl), ρ[j]? = some x → SlOk N B H j (σ[j]?.bind id) x
  ds : ∀ (j k : Nat) (x y : D) (a : Addr), j ≠ k → ρ[j]? = some (Sl.o x) → ρ[k]? = some (Sl.o y) → σ[j]? = some (some (V.ref a)) → σ[k]? = some (some (V.ref a)) → False
/-- no slot of one's own holds p -/
def Free (ρ : Env') (σ : L2.St) (p : Addr) : Prop := ∀ (j : Nat) (d : D), ρ[j]? = some (Sl.o d) → σ[j]? ≠ some (some (V.ref p))
/-- what is wanted where an error leaves the body -/
def XOk (N : Cn) (c : Str) (fs : List (Str × D)) : Prop := ∀ (dx : Addr) (H' : Hp) (fv : List (Str × V)), N.H0 dx = none → (∀ b o, (∀ j, N.C j ≠ some b) → N.H0 b = some o → H' b = some o) →
  H' dx = some (.xd fv) → fv.map (·.1) = fs.map (·.1) → RepA N.K N.ca (mask H' N.B0) (fv.map (·.2)) (fs.map (·.2)) → N.E (.ref (N.ca c)) (some dx) H'
section
variable {N : Cn} {B B' : Addr → Bool} {ρ ρ' : Env'} {σ : L2.St} {H H' : Hp}
theorem SlOk.up {j : Nat} {w : Option V} {x : Sl} (s : SameH H H') (h : SlOk N B H j w x) : SlOk N B H' j w x := by
  cases x with
  | e => trivial
  | v d => obtain ⟨v, e, r⟩ := h; exact ⟨v, e, r.up (mask_up s)⟩
  | o d => obtain ⟨a, o, e, h1, h2, h3, h4, c⟩ := h; exact ⟨a, o, e, h1, h2, h3, s _ _ h4, c.up (mask_up s)⟩
  | i d => obtain ⟨a, o, e, h1, h2, c⟩ := h; exact ⟨a, o, e, h1, s _ _ h2, c.up (mask_up s)⟩
  | b d =>
    obtain ⟨v, e, r | ⟨a, o, h1, h2, h3, h4, c⟩⟩ := h
    · exact ⟨v, e, .inl (r.up (mask_up s))⟩
    · exact ⟨v, e, .inr ⟨a, o, h1, h2, h3, s _ _ h4, c.up (mask_up s)⟩⟩
/-- the heap grows -/
theorem Iv.grow (I : Iv N B ρ σ H) (s : SameH H H') : Iv N B ρ σ H' where
  fr := fun b o h e => s _ _ (I.fr b o h e)
  cb := I.cb
  ci := I.ci
  ck := I.ck
  bb := I.bb
  bh := I.bh
  tr := fun b hb e => by
    cases q : H b with
    | none => exact I.tr b hb q
    | some o => rw [s b o q] at e; cases e
  ln := I.ln
  sl := fun j x e => (I.sl j x e).up s
  ds := I.ds
theorem Iv.get (I : Iv N B ρ σ H) {j : Nat} {x : Sl} (e : ρ[j]? = some x) : ∃ w, σ[j]? = some w ∧ SlOk N B H j w x := by
  have h := I.sl j x e
  have hl : j < σ.length := by rw [← I.ln]; exact (List.getElem?_eq_some_iff.mp e).1
  refine ⟨σ[j], List.getElem?_eq_getElem hl, ?_⟩
  rw [List.getElem?_eq_getElem hl] at h
  exact h
end

/-! ### M3. judgements -/
inductive Pl where
  | v (d : D) | s (i : Nat) | n (d : D)
def Sl.d : Sl → Option D
  | .e => none
  | .v d | .o d | .i d | .b d => some d
def plD (ρ : Env') : Pl → Option D
  | .v d => some d
  | .n d => some d
  | .s i => (ρ[i]?).bind Sl.d
/-- a mark on an argument: what stands under it is not rewritten -/
class Tg {α : Type} (a : α) where
  mk ::
instance tg {α : Type} (a : α) : Tg a := ⟨⟩
def Rs.bind {α β : Type} (r : Rs α) (f : α → Rs β) [Tg f] : Rs β := match r with
  | .no => .no
  | .ok a => f a
  | .er c fs => .er c fs
def Rs.of {α : Type} : Option α → Rs α
  | some a => .ok a
  | none => .no
abbrev MM (α : Type) := Env' → Rs (α × Env')
def addB (B : Addr → Bool) (p : Addr) : Addr → Bool := fun a => a == p || B a
def delB (B : Addr → Bool) (p : Addr) : Addr → Bool := fun a => !(a == p) && B a
structure Stp (N : Cn) (σ : L2.St) (B : Addr → Bool) (ρ : Env') (H : Hp) (B' : Addr → Bool) (ρ' : Env') (H' : Hp) : Prop where
  sm : SameH (mask H B) (mask H' B')
  tm : ∀ p o, B p = true → Free ρ σ p → (∀ j, N.C j ≠ some p) → H p = some o → H' p = some o ∧ B' p = true ∧ Free ρ' σ p
theorem Stp.rfl {N : Cn} {σ : L2.St} {B : Addr → Bool} {ρ : Env'} {H : Hp} : Stp N σ B ρ H B ρ H := ⟨SameH.rfl, fun _ _ h1 h2 _ e => ⟨e, h1, h2⟩⟩
theorem Stp.tr {N : Cn} {σ : L2.St} {B B1 B2 : Addr → Bool} {ρ ρ1 ρ2 : Env'} {H H1 H2 : Hp} (a : Stp N σ B ρ H B1 ρ1 H1) (b : Stp N σ B1 ρ1 H1 B2 ρ2 H2) : Stp N σ B ρ H B2 ρ2 H2 :=
  ⟨a.sm.tr b.sm, fun p o h1 h2 hc e => let ⟨e1, g1, f1⟩ := a.tm p o h1 h2 hc e; b.tm p o g1 f1 hc e1⟩
/-- a new object that no slot holds -/
def New (N : Cn) (σ : L2.St) (B : Addr → Bool) (ρ : Env') (H : Hp) (v : V) (d : D) : Prop :=
  ∃ p o, v = .ref p ∧ N.H0 p = none ∧ B p = true ∧ Free ρ σ p ∧ H p = some o ∧ Ct N.K N.ca (mask H B) o d
def PlOk (N : Cn) (σ : L2.St) (B : Addr → Bool) (ρ : Env') (H : Hp) (v : V) : Pl → Prop
  | .v d => Rep N.K N.ca (mask H B) v d
  | .s i => σ[i]? = some (some v)
  | .n d => New N σ B ρ H v d
/-- v is none of the temporary objects that stood before -/
def NotOld (N : Cn) (σ : L2.St) (B : Addr → Bool) (ρ : Env') (H : Hp) (v : V) : Prop :=
  ∀ p o, B p = true → Free ρ σ p → (∀ j, N.C j ≠ some p) → H p = some o → v ≠ .ref p
/-- at the start: B ρ H; at the end: B' ρ' H' -/
abbrev Rel (α β : Type) := Cn → L2.St → (Addr → Bool) → Env' → Hp → (Addr → Bool) → Env' → Hp → β → α → Prop
def Post {α β : Type} (R : Rel α β) (N : Cn) (σ : L2.St) (B : Addr → Bool) (ρ : Env') (H : Hp) (r : Rs (α × Env')) (Q : β → Hp → Prop) : Prop :=
  match r with
  | .no => False
  | .er c fs => XOk N c fs
  | .ok x => ∀ y B' H', Iv N B' x.2 σ H' → Stp N σ B ρ H B' x.2 H' → R N σ B ρ H B' x.2 H' y x.1 → Q y H'
def Jd {α β : Type} (R : Rel α β) (N : Cn) (t : L2.St → Hp → (β → Hp → Prop) → Prop) (f : MM α) : Prop :=
  ∀ B ρ σ H Q, Iv N B ρ σ H → Post R N σ B ρ H (f ρ) Q → t σ H Q
def rE : Rel D V := fun N _ _ _ _ B' _ H' v d => Rep N.K N.ca (mask H' B') v d
def rN : Rel D V := fun N σ B ρ H B' ρ' H' v d => New N σ B' ρ' H' v d ∧ NotOld N σ B ρ H v
def rP : Rel Pl V := fun N σ B ρ H B' ρ' H' v p => PlOk N σ B' ρ' H' v p ∧ ((∃ d, p = .n d) → NotOld N σ B ρ H v)
def rT : Rel Bool Bool := fun _ _ _ _ _ _ _ _ b c => b = c
def nws : List V → List Pl → List V
  | v :: vs, .n _ :: ps => v :: nws vs ps
  | _ :: vs, _ :: ps => nws vs ps
  | _, _ => []
inductive PlsOk (N : Cn) (σ : L2.St) (B : Addr → Bool) (ρ : Env') (H : Hp) : List V → List Pl → Prop
  | nil : PlsOk N σ B ρ H [] []
  | cons {v : V} {vs : List V} {p : Pl} {ps : List Pl} : PlOk N σ B ρ H v p → PlsOk N σ B ρ H vs ps → PlsOk N σ B ρ H (v :: vs) (p :: ps)
def rA : Rel (List Pl) (List V) := fun N σ B ρ H B' ρ' H' vs ps => PlsOk N σ B' ρ' H' vs ps ∧ (nws vs ps).Nodup ∧ ∀ v ∈ nws vs ps, NotOld N σ B ρ H v
abbrev SE (N : Cn) (t : TE) (f : MM D) : Prop := Jd rE N t f
abbrev SN (N : Cn) (t : TE) (f : MM D) : Prop := Jd rN N t f
abbrev SPl (N : Cn) (t : TE) (f : MM Pl) : Prop := Jd rP N t f
abbrev STt (N : Cn) (t : TT) (f : MM Bool) : Prop := Jd rT N t f
abbrev SA (N : Cn) (t : TA) (f : MM (List Pl)) : Prop := Jd rA N t f
section
variable {N : Cn} {B B' : Addr → Bool} {ρ ρ' : Env'} {σ : L2.St} {H H' : Hp}
theorem add_self {p : Addr} : addB B p p = true := by simp [addB]
theorem add_of {p a : Addr} (h : B a = true) : addB B p a = true := by simp [addB, h]
theorem addB_ne {p a : Addr} (h : a ≠ p) : addB B p a = B a := by simp [addB, h]
theorem delB_ne {p a : Addr} (h : a ≠ p) : delB B p a = B a := by simp [delB, h]
theorem del_sub {p a : Addr} (h : delB B p a = true) : B a = true := by simp [delB] at h; exact h.2
theorem mask_add {p : Addr} (hp : H p = none) (s : SameH H H') : SameH (mask H B) (mask H' (addB B p)) := fun a o e => by
  unfold mask at e
  split at e
  · cases e
  · rename_i h
    refine mask_get ?_ (s a o e)
    rw [addB_ne (ne_of_none e hp)]
    simpa using h
theorem SlOk.sub {j : Nat} {w : Option V} {x : Sl} (s : SameH (mask H B) (mask H B')) (ho : ∀ d a, x = .o d → w = some (.ref a) → B a = true → B' a = true) (h : SlOk N B H j w x) : SlOk N B' H j w x := by
  cases x with
  | e => trivial
  | v d => obtain ⟨v, e, r⟩ := h; exact ⟨v, e, r.up s⟩
  | o d => obtain ⟨a, o, e, h1, h2, h3, h4, c⟩ := h; exact ⟨a, o, e, ho _ _ rfl e h1, h2, h3, h4, c.up s⟩
  | i d => obtain ⟨a, o, e, h1, h2, c⟩ := h; exact ⟨a, o, e, h1, h2, c.up s⟩
  | b d =>
    obtain ⟨v, e, r | ⟨a, o, h1, h2, h3, h4, c⟩⟩ := h
    · exact ⟨v, e, .inl (r.up s)⟩
    · exact ⟨v, e, .inr ⟨a, o, h1, h2, h3, h4, c.up s⟩⟩
theorem bind_id {j : Nat} {v : V} (e : σ[j]? = some (some v)) : σ[j]?.bind id = some v := by rw [e]; rfl
theorem Iv.slot (I : Iv N B ρ σ H) {j : Nat} {x : Sl} (e : ρ[j]? = some x) : SlOk N B H j (σ[j]?.bind id) x := I.sl j x e
theorem of_bind {j : Nat} {v : V} (e : σ[j]?.bind id = some v) : σ[j]? = some (some v) := by
  cases h : σ[j]? with
  | none => rw [h] at e; cases e
  | some w => rw [h] at e; cases w with
    | none => cases e
    | some u => cases e; rfl
theorem Iv.drop {p : Addr} (I : Iv N B ρ σ H) (h0 : N.B0 p = false) (f : Free ρ σ p) : Iv N (delB B p) ρ σ H where
  fr := I.fr
  cb := I.cb
  ci := I.ci
  ck := I.ck
  bb := fun b hb => by
    have : b ≠ p := fun z => by rw [z, h0] at hb; cases hb
    rw [delB_ne this]; exact I.bb b hb
  bh := I.bh
  tr := fun b hb => I.tr b (del_sub hb)
  ln := I.ln
  sl := fun j x e => (I.sl j x e).sub (mask_sub fun a h => del_sub h) fun d a hx hw hb => by
    subst hx
    rw [delB_ne (fun z => f j d e (by rw [← z]; exact of_bind hw))]
    exact hb
  ds := I.ds
theorem Iv.no0 (I : Iv N B ρ σ H) {p : Addr} (hp : H p = none) : N.H0 p = none := by
  cases e : N.H0 p with
  | none => rfl
  | some o =>
    by_cases hc : ∃ j, N.C j = some p
    · obtain ⟨j, hj⟩ := hc
      exact absurd hp (I.tr p (I.bb p (I.cb j p hj)))
    · have := I.fr p o (fun j q => hc ⟨j, q⟩) e
      rw [hp] at this; cases this
theorem Iv.notB (I : Iv N B ρ σ H) {p : Addr} (hp : H p = none) : B p = false := by
  cases e : B p with
  | false => rfl
  | true => exact absurd hp (I.tr p e)
theorem Iv.b0 (I : Iv N B ρ σ H) {p : Addr} (hp : N.H0 p = none) : N.B0 p = false := by
  cases e : N.B0 p with
  | false => rfl
  | true => exact absurd hp (I.bh p e)
theorem Iv.notC (I : Iv N B ρ σ H) {p : Addr} (hp : N.H0 p = none) : ∀ j, N.C j ≠ some p := fun j e => I.bh p (I.cb j p e) hp
theorem Iv.free (I : Iv N B ρ σ H) {p : Addr} (hp : H p = none) : Free ρ σ p := fun j d e z => by
  obtain ⟨a, o, hw, _, _, _, h, _⟩ := I.slot e
  rw [bind_id z] at hw
  cases hw
  rw [hp] at h; cases h
/-- a new object comes, and is not leant on yet -/
theorem Iv.newp (I : Iv N B ρ σ H) {p : Addr} (hp : H p = none) (s : SameH H H') (hn : H' p ≠ none) : Iv N (addB B p) ρ σ H' where
  fr := fun b o h e => s _ _ (I.fr b o h e)
  cb := I.cb
  ci := I.ci
  ck := I.ck
  bb := fun b hb => add_of (I.bb b hb)
  bh := I.bh
  tr := fun b hb => by
    by_cases e : b = p
    · rw [e]; exact hn
    · rw [addB_ne e] at hb
      exact (I.grow s).tr b hb
  ln := I.ln
  sl := fun j x e => by
    have h := I.sl j x e
    have hm : SameH (mask H' B) (mask H' (addB B p)) ∨ True := .inr trivial
    cases x with
    | e => trivial
    | v d => obtain ⟨v, e, r⟩ := h; exact ⟨v, e, r.up (mask_add hp s)⟩
    | o d => obtain ⟨a, o, e, h1, h2, h3, h4, c⟩ := h; exact ⟨a, o, e, add_of h1, h2, h3, s _ _ h4, c.up (mask_add hp s)⟩
    | i d => obtain ⟨a, o, e, h1, h2, c⟩ := h; exact ⟨a, o, e, h1, s _ _ h2, c.up (mask_add hp s)⟩
    | b d =>
      obtain ⟨v, e, r | ⟨a, o, h1, h2, h3, h4, c⟩⟩ := h
      · exact ⟨v, e, .inl (r.up (mask_add hp s))⟩
      · exact ⟨v, e, .inr ⟨a, o, h1, h2, h3, s _ _ h4, c.up (mask_add hp s)⟩⟩
  ds := I.ds
theorem stp_grow (s : SameH H H') : Stp N σ B ρ H B ρ H' := ⟨mask_up s, fun _ _ h1 h2 _ e => ⟨s _ _ e, h1, h2⟩⟩
theorem stp_new {p : Addr} (hp : H p = none) (s : SameH H H') : Stp N σ B ρ H (addB B p) ρ H' := ⟨mask_add hp s, fun _ _ h1 h2 _ e => ⟨s _ _ e, add_of h1, h2⟩⟩
theorem Iv.mkNew (I : Iv N B ρ σ H) {p : Addr} {o : HO} {d : D} (hp : H p = none) (s : SameH H H') (hn : H' p = some o) (c : Ct N.K N.ca (mask H B) o d) :
    Iv N (addB B p) ρ σ H' ∧ Stp N σ B ρ H (addB B p) ρ H' ∧ New N σ (addB B p) ρ H' (.ref p) d :=
  ⟨I.newp hp s (by rw [hn]; intro q; cases q), stp_new hp s, p, o, rfl, I.no0 hp, add_self, I.free hp, hn, c.up (mask_add hp s)⟩
/-- a new object becomes a value -/
theorem New.rep (I : Iv N B ρ σ H) {v : V} {d : D} (h : New N σ B ρ H v d) : ∃ B', Iv N B' ρ σ H ∧ SameH (mask H B) (mask H B') ∧ Rep N.K N.ca (mask H B') v d ∧
    ∀ q, B q = true → v ≠ .ref q → B' q = true := by
  obtain ⟨p, o, rfl, h0, hb, f, e, c⟩ := h
  have s : SameH (mask H B) (mask H (delB B p)) := mask_sub fun a h => del_sub h
  refine ⟨delB B p, I.drop (I.b0 h0) f, s, ?_, fun q h1 ne => by rw [delB_ne (fun z => ne (by rw [z]))]; exact h1⟩
  exact c.rep s (mask_get (by simp [delB]) e)
end
/-! ### M4. from one judgement to another -/
section
variable {N : Cn} {B B' B1 B2 : Addr → Bool} {ρ ρ' ρ1 ρ2 : Env'} {σ : L2.St} {H H' H1 H2 : Hp} {te ta tb : TE} {f fa fb : MM D}
theorem NotOld.back {v : V} (s : Stp N σ B ρ H B1 ρ1 H1) (h : NotOld N σ B1 ρ1 H1 v) : NotOld N σ B ρ H v := fun p o h1 h2 hc e =>
  let ⟨e1, g1, f1⟩ := s.tm p o h1 h2 hc e
  h p o g1 f1 hc e1
theorem PlOk.up {v : V} {p : Pl} (s : Stp N σ B ρ H B1 ρ1 H1) (I : Iv N B ρ σ H) (h : PlOk N σ B ρ H v p) : PlOk N σ B1 ρ1 H1 v p := by
  cases p with
  | v d => exact Rep.up s.sm h
  | s i => exact h
  | n d =>
    obtain ⟨p, o, rfl, h0, hb, f, e, c⟩ := h
    obtain ⟨e1, g1, f1⟩ := s.tm p o hb f (I.notC h0) e
    exact ⟨p, o, rfl, h0, g1, f1, e1, c.up s.sm⟩
theorem PlOk.notOld {v : V} {d : D} (I : Iv N B ρ σ H) (h : PlOk N σ B ρ H v (.n d)) : ¬ NotOld N σ B ρ H v := fun q => by
  obtain ⟨p, o, rfl, h0, hb, f, e, c⟩ := h
  exact q p o hb f (I.notC h0) e rfl
theorem PlsOk.up {vs : List V} {ps : List Pl} (s : Stp N σ B ρ H B1 ρ1 H1) (I : Iv N B ρ σ H) (h : PlsOk N σ B ρ H vs ps) : PlsOk N σ B1 ρ1 H1 vs ps := by
  induction h with
  | nil => exact .nil
  | cons h _ ih => exact .cons (h.up s I) ih
/-- what holds from a later start holds from the first one -/
def Back {α β : Type} (R : Rel α β) : Prop := ∀ (N : Cn) σ B ρ H B1 ρ1 H1 B' ρ' H' y x, Stp N σ B ρ H B1 ρ1 H1 → R N σ B1 ρ1 H1 B' ρ' H' y x → R N σ B ρ H B' ρ' H' y x
theorem back_E : Back rE := fun _ _ _ _ _ _ _ _ _ _ _ _ _ _ r => r
theorem back_T : Back rT := fun _ _ _ _ _ _ _ _ _ _ _ _ _ _ r => r
theorem back_N : Back rN := fun _ _ _ _ _ _ _ _ _ _ _ _ _ s r => ⟨r.1, r.2.back s⟩
theorem back_P : Back rP := fun _ _ _ _ _ _ _ _ _ _ _ _ _ s r => ⟨r.1, fun h => (r.2 h).back s⟩
theorem back_A : Back rA := fun _ _ _ _ _ _ _ _ _ _ _ _ _ s r => ⟨r.1, r.2.1, fun v hv => (r.2.2 v hv).back s⟩
/-- what follows a part: from the start B ρ H to B1 ρ1 H1, then on -/
theorem Post.next {α β γ δ : Type} {R : Rel α β} {R' : Rel γ δ} {t : L2.St → Hp → (β → Hp → Prop) → Prop} {g : MM α} {k : α × Env' → Rs (γ × Env')} {Q : δ → Hp → Prop} {Q1 : β → Hp → Prop} (bk : Back R') (ha : Jd R N t g) (I : Iv N B ρ σ H)
    (h : Post R' N σ B ρ H ((g ρ).bind k) Q)
    (hk : ∀ y x ρ1 B1 H1, Iv N B1 ρ1 σ H1 → Stp N σ B ρ H B1 ρ1 H1 → R N σ B ρ H B1 ρ1 H1 y x → Post R' N σ B1 ρ1 H1 (k (x, ρ1)) Q → Q1 y H1) : t σ H Q1 := by
  refine ha B ρ σ H Q1 I ?_
  cases e : g ρ with
  | no => rw [e] at h; exact h
  | er c fs => rw [e] at h; exact h
  | ok x =>
    rw [e] at h
    intro y B1 H1 I1 s1 r1
    refine hk y x.1 x.2 B1 H1 I1 s1 r1 ?_
    change Post R' N σ B ρ H (k x) Q at h
    show Post R' N σ B1 x.2 H1 (k x) Q
    cases e2 : k x with
    | no => rw [e2] at h; exact h
    | er c fs => rw [e2] at h; exact h
    | ok z =>
      rw [e2] at h
      exact fun y' B' H' I' s' r' => h y' B' H' I' (s1.tr s') (bk _ _ _ _ _ _ _ _ _ _ _ _ _ s1 r')
theorem Post.opt {α γ δ : Type} {R' : Rel γ δ} {o : Option α} {k : α → Rs (γ × Env')} {Q : δ → Hp → Prop} (h : Post R' N σ B ρ H ((Rs.of o).bind k) Q) : ∃ z, o = some z ∧ Post R' N σ B ρ H (k z) Q := by
  cases o with
  | none => exact h.elim
  | some z => exact ⟨z, rfl, h⟩
theorem Post.ok {α β : Type} {R : Rel α β} {Q : β → Hp → Prop} {x : α} {y : β} (h : Post R N σ B ρ H (.ok (x, ρ1)) Q) (I : Iv N B1 ρ1 σ H1) (s : Stp N σ B ρ H B1 ρ1 H1) (hr : R N σ B ρ H B1 ρ1 H1 y x) : Q y H1 := h y B1 H1 I s hr
/-- the end of a part -/
theorem Post.fin {α β : Type} {R : Rel α β} {r : Rs (α × Env')} {Q : β → Hp → Prop} {x : α} {y : β} (h : Post R N σ B ρ H r Q) (e : r = .ok (x, ρ1)) (I : Iv N B1 ρ1 σ H1) (s : Stp N σ B ρ H B1 ρ1 H1) (hr : R N σ B ρ H B1 ρ1 H1 y x) : Q y H1 := by
  rw [e] at h
  exact h y B1 H1 I s hr
theorem SN.se (h : SN N te f) : SE N te f := by
  intro B ρ σ H Q I hp
  refine h B ρ σ H Q I ?_
  cases e : f ρ with
  | no => rw [e] at hp; exact hp
  | er c fs => rw [e] at hp; exact hp
  | ok x =>
    rw [e] at hp
    intro v B1 H1 I1 s1 ⟨hn, no⟩
    obtain ⟨B2, I2, s2, r2, k2⟩ := hn.rep I1
    refine hp v B2 H1 I2 ⟨s1.sm.tr s2, fun p o h1 h2 hc q => ?_⟩ r2
    obtain ⟨e1, g1, f1⟩ := s1.tm p o h1 h2 hc q
    exact ⟨e1, k2 p g1 (no p o h1 h2 hc q), f1⟩
def mV (f : MM D) : MM Pl := fun ρ => (f ρ).bind fun x => .ok (.v x.1, x.2)
def mNw (f : MM D) : MM Pl := fun ρ => (f ρ).bind fun x => .ok (.n x.1, x.2)
theorem SE.pl (h : SE N te f) : SPl N te (mV f) := by
  intro B ρ σ H Q I hp
  exact Post.next back_P h I hp fun y x ρ1 B1 H1 I1 s1 r1 q => q.ok I1 Stp.rfl ⟨r1, fun ⟨_, z⟩ => nomatch z⟩
theorem SN.pl (h : SN N te f) : SPl N te (mNw f) := by
  intro B ρ σ H Q I hp
  refine h B ρ σ H Q I ?_
  change Post rP N σ B ρ H ((f ρ).bind fun x => .ok (.n x.1, x.2)) Q at hp
  cases e : f ρ with
  | no => rw [e] at hp; exact hp
  | er c fs => rw [e] at hp; exact hp
  | ok x => rw [e] at hp; exact fun y B1 H1 I1 s1 r1 => hp y B1 H1 I1 s1 ⟨r1.1, fun _ => r1.2⟩
/-- a slot's thing, read where it stands -/
def mS (i : Nat) : MM Pl := fun ρ => match (ρ[i]?).bind Sl.d with
  | some _ => .ok (.s i, ρ)
  | none => .no
theorem sl_val (I : Iv N B ρ σ H) {i : Nat} {x : Sl} {d : D} (e : ρ[i]? = some x) (hd : x.d = some d) : ∃ v, σ[i]? = some (some v) ∧ Bor N.K N.ca H B v d := by
  have h := I.slot e
  cases x with
  | e => cases hd
  | v d' => cases hd; obtain ⟨v, e, r⟩ := h; exact ⟨v, of_bind e, .inl r⟩
  | o d' => cases hd; obtain ⟨a, o, e, h1, h2, h3, h4, c⟩ := h; exact ⟨.ref a, of_bind e, .inr ⟨a, o, rfl, h4, c⟩⟩
  | i d' => cases hd; obtain ⟨a, o, e, h1, h2, c⟩ := h; exact ⟨.ref a, of_bind e, .inr ⟨a, o, rfl, h2, c⟩⟩
  | b d' =>
    cases hd
    obtain ⟨v, e, r | ⟨a, o, h1, h2, h3, h4, c⟩⟩ := h
    · exact ⟨v, of_bind e, .inl r⟩
    · exact ⟨v, of_bind e, .inr ⟨a, o, h1, h4, c⟩⟩
theorem sp_slot (i : Nat) : SPl N (tVar i) (mS i) := by
  intro B ρ σ H Q I hp
  unfold mS at hp
  cases e : ρ[i]? with
  | none => rw [e] at hp; exact hp.elim
  | some x =>
    rw [e] at hp
    cases hd : x.d with
    | none =>
      rw [show ((some x).bind Sl.d) = none from hd] at hp
      exact hp.elim
    | some d =>
      rw [show ((some x).bind Sl.d) = some d from hd] at hp
      obtain ⟨v, hv, _⟩ := sl_val I e hd
      exact ⟨v, hv, hp v B H I Stp.rfl ⟨hv, fun ⟨_, z⟩ => nomatch z⟩⟩
theorem bor_of (I : Iv N B ρ σ H) {v : V} {p : Pl} {d : D} (h : PlOk N σ B ρ H v p) (e : plD ρ p = some d) : Bor N.K N.ca H B v d := by
  cases p with
  | v d' => cases e; exact .inl h
  | n d' => cases e; obtain ⟨p, o, rfl, h0, hb, f, e, c⟩ := h; exact .inr ⟨p, o, rfl, e, c⟩
  | s i =>
    change (ρ[i]?).bind Sl.d = some d at e
    cases q : ρ[i]? with
    | none => rw [q] at e; cases e
    | some x =>
      rw [q] at e
      obtain ⟨w, hw, b⟩ := sl_val I q e
      have hv : σ[i]? = some (some v) := h
      rw [hw] at hv
      cases hv
      exact b
/-- a slot's value -/
def mL (i : Nat) : MM D := fun ρ => match ρ[i]? with
  | some (.v d) => .ok (d, ρ)
  | some (.o d) => .ok (d, ρ.set i (.v d))
  | _ => .no
/-- .. taken out of the slot, as a new object -/
def mTake (i : Nat) : MM D := fun ρ => match ρ[i]? with
  | some (.o d) => .ok (d, ρ.set i .e)
  | _ => .no
theorem len_set {i : Nat} {x : Sl} (I : Iv N B ρ σ H) : (ρ.set i x).length = σ.length := by rw [List.length_set]; exact I.ln
/-- a slot is emptied, or becomes a value -/
theorem Iv.put0 (I : Iv N B ρ σ H) {i : Nat} {x y : Sl} (e : ρ[i]? = some x) (hx : ∀ d, x ≠ .i d) (hy : ∀ d, y ≠ .o d) (h : SlOk N B H i (σ[i]?.bind id) y) : Iv N B (ρ.set i y) σ H where
  fr := I.fr
  cb := I.cb
  ci := I.ci
  ck := fun j b hb => by
    obtain ⟨d, hd⟩ := I.ck j b hb
    by_cases ej : i = j
    · subst ej; rw [e] at hd; cases hd; exact absurd rfl (hx d)
    · exact ⟨d, by rw [List.getElem?_set_ne ej]; exact hd⟩
  bb := I.bb
  bh := I.bh
  tr := I.tr
  ln := len_set I
  sl := fun j z ez => by
    by_cases ej : i = j
    · subst ej
      rw [List.getElem?_set_self (List.getElem?_eq_some_iff.mp e).1] at ez
      cases ez
      exact h
    · rw [List.getElem?_set_ne ej] at ez; exact I.sl j z ez
  ds := fun j k x' y' a ne ej ek => by
    have hj : ρ[j]? = some (.o x') := by
      by_cases q : i = j
      · subst q; rw [List.getElem?_set_self (List.getElem?_eq_some_iff.mp e).1] at ej; cases ej; exact absurd rfl (hy x')
      · rw [List.getElem?_set_ne q] at ej; exact ej
    have hk : ρ[k]? = some (.o y') := by
      by_cases q : i = k
      · subst q; rw [List.getElem?_set_self (List.getElem?_eq_some_iff.mp e).1] at ek; cases ek; exact absurd rfl (hy y')
      · rw [List.getElem?_set_ne q] at ek; exact ek
    exact I.ds j k x' y' a ne hj hk
theorem free_put {i : Nat} {x y : Sl} {p : Addr} (e : ρ[i]? = some x) (hy : ∀ d, y ≠ .o d) (f : Free ρ σ p) : Free (ρ.set i y) σ p := fun j d ej => by
  by_cases q : i = j
  · subst q; rw [List.getElem?_set_self (List.getElem?_eq_some_iff.mp e).1] at ej; cases ej; exact absurd rfl (hy d)
  · rw [List.getElem?_set_ne q] at ej; exact f j d ej
theorem sn_take (i : Nat) : SN N (tVar i) (mTake i) := by
  intro B ρ σ H Q I hp
  unfold mTake at hp
  cases e : ρ[i]? with
  | none => rw [e] at hp; exact hp.elim
  | some x =>
    rw [e] at hp
    cases x with
    | o d =>
      obtain ⟨a, o, hw, h1, h2, h3, h4, c⟩ := I.slot e
      have hv := of_bind hw
      have I1 : Iv N B (ρ.set i .e) σ H := I.put0 e (fun _ z => nomatch z) (fun _ z => nomatch z) trivial
      have fa : Free (ρ.set i .e) σ a := fun j d' ej ev => by
        by_cases q : i = j
        · subst q; rw [List.getElem?_set_self (List.getElem?_eq_some_iff.mp e).1] at ej; cases ej
        · rw [List.getElem?_set_ne q] at ej
          exact I.ds i j d d' a q e ej hv ev
      refine ⟨.ref a, hv, hp (.ref a) B H I1 ⟨SameH.rfl, fun p o' g1 g2 _ g4 => ⟨g4, g1, free_put e (fun _ z => nomatch z) g2⟩⟩ ⟨⟨a, o, rfl, h3, h1, fa, h4, c⟩, fun p o' g1 g2 _ g4 z => ?_⟩⟩
      cases z
      exact g2 i d e hv
    | e => exact hp.elim
    | v d => exact hp.elim
    | i d => exact hp.elim
    | b d => exact hp.elim
theorem se_var (i : Nat) : SE N (tVar i) (mL i) := by
  intro B ρ σ H Q I hp
  unfold mL at hp
  cases e : ρ[i]? with
  | none => rw [e] at hp; exact hp.elim
  | some x =>
    rw [e] at hp
    cases x with
    | v d =>
      obtain ⟨v, hw, r⟩ := I.slot e
      exact ⟨v, of_bind hw, hp v B H I Stp.rfl r⟩
    | o d =>
      obtain ⟨a, o, hw, h1, h2, h3, h4, c⟩ := I.slot e
      have hv := of_bind hw
      have fa : Free (ρ.set i .e) σ a := fun j d' ej ev => by
        by_cases q : i = j
        · subst q; rw [List.getElem?_set_self (List.getElem?_eq_some_iff.mp e).1] at ej; cases ej
        · rw [List.getElem?_set_ne q] at ej
          exact I.ds i j d d' a q e ej hv ev
      have I1 : Iv N B (ρ.set i .e) σ H := I.put0 e (fun _ z => nomatch z) (fun _ z => nomatch z) trivial
      have I2 := I1.drop h2 fa
      have s : SameH (mask H B) (mask H (delB B a)) := mask_sub fun b h => del_sub h
      have r : Rep N.K N.ca (mask H (delB B a)) (.ref a) d := c.rep s (mask_get (by simp [delB]) h4)
      have I3 : Iv N (delB B a) ((ρ.set i .e).set i (.v d)) σ H := I2.put0 (List.getElem?_set_self (List.getElem?_eq_some_iff.mp e).1) (fun _ z => nomatch z) (fun _ z => nomatch z) ⟨.ref a, hw, r⟩
      rw [List.set_set] at I3
      refine ⟨.ref a, hv, hp (.ref a) _ H I3 ⟨s, fun p o' g1 g2 _ g4 => ⟨g4, ?_, free_put e (fun _ z => nomatch z) g2⟩⟩ r⟩
      rw [delB_ne (fun z => g2 i d e (by rw [z]; exact hv))]
      exact g1
    | e => exact hp.elim
    | i d => exact hp.elim
    | b d => exact hp.elim
end

/-! ### M5. operators and built-ins, by values -/
section
variable (K : PySem.W.Frag) (ca : Str → Addr)
def Live (B : Addr → Bool) (H : Hp) : Prop := ∀ b, B b = true → H b ≠ none
def G1 (r : V → Hp → VK → Prop) (g : D → Option D) : Prop := ∀ H B v d z Q, Live B H → Bor K ca H B v d → g d = some z → (∀ v' H', SameH H H' → Rep K ca (mask H' B) v' z → Q v' H') → r v H Q
def G2 (r : R2) (g : D → D → Option D) : Prop := ∀ H B v w d e z Q, Live B H → Bor K ca H B v d → Bor K ca H B w e → g d e = some z → (∀ v' H', SameH H H' → Rep K ca (mask H' B) v' z → Q v' H') → r v w H Q
def N2 (r : R2) (g : D → D → Option D) : Prop := ∀ H B v w d e z Q, Live B H → Bor K ca H B v d → Bor K ca H B w e → g d e = some z → (∀ p o H', H p = none → SameH H H' → H' p = some o → Ct K ca (mask H B) o z → Q (.ref p) H') → r v w H Q
abbrev BorA (H : Hp) (B : Addr → Bool) : List V → List D → Prop := Paired (Bor K ca H B)
def GA (r : List V → Hp → VK → Prop) (g : List D → Option D) : Prop := ∀ H B vs ds z Q, Live B H → BorA K ca H B vs ds → g ds = some z → (∀ v' H', SameH H H' → Rep K ca (mask H' B) v' z → Q v' H') → r vs H Q
def NA (r : List V → Hp → VK → Prop) (g : List D → Option D) : Prop := ∀ H B vs ds z Q, Live B H → BorA K ca H B vs ds → g ds = some z → (∀ p o H', H p = none → SameH H H' → H' p = some o → Ct K ca (mask H B) o z → Q (.ref p) H') → r vs H Q
end
def rdA (ρ : Env') : List Pl → Option (List D)
  | [] => some []
  | p :: ps => match plD ρ p, rdA ρ ps with
    | some d, some ds => some (d :: ds)
    | _, _ => none
def m1 (g : D → Option D) (fa : MM Pl) : MM D := fun ρ => (fa ρ).bind fun x => (Rs.of (plD x.2 x.1)).bind fun d => (Rs.of (g d)).bind fun z => .ok (z, x.2)
def m2 (g : D → D → Option D) (fa fb : MM Pl) : MM D := fun ρ => (fa ρ).bind fun x => (fb x.2).bind fun y => (Rs.of (plD y.2 x.1)).bind fun d => (Rs.of (plD y.2 y.1)).bind fun e => (Rs.of (g d e)).bind fun z => .ok (z, y.2)
def mA (g : List D → Option D) (fa : MM (List Pl)) : MM D := fun ρ => (fa ρ).bind fun x => (Rs.of (rdA x.2 x.1)).bind fun ds => (Rs.of (g ds)).bind fun z => .ok (z, x.2)
def mNil : MM (List Pl) := fun ρ => .ok ([], ρ)
def mCons (fa : MM Pl) (fs : MM (List Pl)) : MM (List Pl) := fun ρ => (fa ρ).bind fun x => (fs x.2).bind fun y => .ok (x.1 :: y.1, y.2)
section
variable {N : Cn} {B B' B1 B2 : Addr → Bool} {ρ ρ' ρ1 ρ2 : Env'} {σ : L2.St} {H H' H1 H2 : Hp} {te ta tb : TE} {f : MM D} {fa fb : MM Pl} {t : TA} {fs : MM (List Pl)}
theorem se_1 {r : V → Hp → VK → Prop} {g : D → Option D} (hr : G1 N.K N.ca r g) (ha : SPl N ta fa) : SE N (fun σ H Q => ta σ H fun x H1 => r x H1 Q) (m1 g fa) := by
  intro B ρ σ H Q I hp
  refine Post.next back_E ha I hp fun v p ρ1 B1 H1 I1 s1 r1 q => ?_
  obtain ⟨d, ed, q⟩ := q.opt
  obtain ⟨z, eg, q⟩ := q.opt
  exact hr H1 B1 v d z Q I1.tr (bor_of I1 r1.1 ed) eg fun v' H' sH rep => q.ok (I1.grow sH) (stp_grow sH) rep
theorem se_2 {r : R2} {g : D → D → Option D} (hr : G2 N.K N.ca r g) (ha : SPl N ta fa) (hb : SPl N tb fb) : SE N (tOp r ta tb) (m2 g fa fb) := by
  intro B ρ σ H Q I hp
  show ta σ H fun x H1 => tb σ H1 fun y H2 => r x y H2 Q
  refine Post.next back_E ha I hp fun v p ρ1 B1 H1 I1 s1 r1 q => ?_
  refine Post.next back_E hb I1 q fun w p' ρ2 B2 H2 I2 s2 r2 q => ?_
  obtain ⟨d, ed, q⟩ := q.opt
  obtain ⟨d', ee, q⟩ := q.opt
  obtain ⟨z, eg, q⟩ := q.opt
  exact hr H2 B2 v w d d' z Q I2.tr (bor_of I2 (r1.1.up s2 I1) ed) (bor_of I2 r2.1 ee) eg fun v' H' sH rep => q.ok (I2.grow sH) (stp_grow sH) rep
theorem notOld_new {p : Addr} (hp : H p = none) : NotOld N σ B ρ H (.ref p) := fun p1 o1 _ _ _ e1 z => by cases z; rw [hp] at e1; cases e1
theorem Post.mk {Q : VK} {z : D} (q : Post rN N σ B ρ H (.ok (z, ρ)) Q) (I : Iv N B ρ σ H) {p : Addr} {o : HO} (hp : H p = none) (s : SameH H H') (ho : H' p = some o) (c : Ct N.K N.ca (mask H B) o z) : Q (.ref p) H' := by
  obtain ⟨I3, s3, n3⟩ := I.mkNew hp s ho c
  exact q.ok I3 s3 ⟨n3, notOld_new hp⟩
theorem sn_2 {r : R2} {g : D → D → Option D} (hr : N2 N.K N.ca r g) (ha : SPl N ta fa) (hb : SPl N tb fb) : SN N (tOp r ta tb) (m2 g fa fb) := by
  intro B ρ σ H Q I hp
  show ta σ H fun x H1 => tb σ H1 fun y H2 => r x y H2 Q
  refine Post.next back_N ha I hp fun v p ρ1 B1 H1 I1 s1 r1 q => ?_
  refine Post.next back_N hb I1 q fun w p' ρ2 B2 H2 I2 s2 r2 q => ?_
  obtain ⟨d, ed, q⟩ := q.opt
  obtain ⟨d', ee, q⟩ := q.opt
  obtain ⟨z, eg, q⟩ := q.opt
  exact hr H2 B2 v w d d' z Q I2.tr (bor_of I2 (r1.1.up s2 I1) ed) (bor_of I2 r2.1 ee) eg fun p0 o H' hp0 sH ho c => q.mk I2 hp0 sH ho c
theorem sa_nil : SA N tNil mNil := by
  intro B ρ σ H Q I hp
  exact hp [] B H I Stp.rfl ⟨.nil, List.nodup_nil, fun v hv => nomatch hv⟩
theorem sa_cons (ha : SPl N ta fa) (hs : SA N t fs) : SA N (tCons ta t) (mCons fa fs) := by
  intro B ρ σ H Q I hp
  show ta σ H fun x H1 => t σ H1 fun xs H2 => Q (x :: xs) H2
  unfold mCons at hp
  refine ha B ρ σ H _ I ?_
  cases ea : fa ρ with
  | no => rw [ea] at hp; exact hp
  | er c fs => rw [ea] at hp; exact hp
  | ok x =>
    rw [ea] at hp
    intro v B1 H1 I1 s1 r1
    refine hs B1 x.2 σ H1 _ I1 ?_
    simp only [Rs.bind] at hp
    cases ef : fs x.2 with
    | no => rw [ef] at hp; exact hp
    | er c fs => rw [ef] at hp; exact hp
    | ok y =>
      rw [ef] at hp
      intro vs B2 H2 I2 s2 r2
      obtain ⟨p, ρ1⟩ := x
      refine hp (v :: vs) B2 H2 I2 (s1.tr s2) ⟨.cons (r1.1.up s2 I1) r2.1, ?_, ?_⟩
      · cases p with
        | v d => exact r2.2.1
        | s i => exact r2.2.1
        | n d => exact List.nodup_cons.mpr ⟨fun hm => PlOk.notOld I1 r1.1 (r2.2.2 v hm), r2.2.1⟩
      · intro w hw
        cases p with
        | v d => exact (r2.2.2 w hw).back s1
        | s i => exact (r2.2.2 w hw).back s1
        | n d =>
          rcases List.mem_cons.mp hw with rfl | hw
          · exact r1.2 ⟨d, rfl⟩
          · exact (r2.2.2 w hw).back s1
theorem borA_of (I : Iv N B ρ σ H) {vs : List V} {ps : List Pl} {ds : List D} (h : PlsOk N σ B ρ H vs ps) (e : rdA ρ ps = some ds) : BorA N.K N.ca H B vs ds := by
  induction h generalizing ds with
  | nil => cases e; exact .nil
  | cons h _ ih =>
    unfold rdA at e
    split at e
    · rename_i d ds' e1 e2
      cases e
      exact .cons (bor_of I h e1) (ih e2)
    · cases e
theorem se_A {r : List V → Hp → VK → Prop} {g : List D → Option D} (hr : GA N.K N.ca r g) (ha : SA N t fs) : SE N (tCB r t) (mA g fs) := by
  intro B ρ σ H Q I hp
  show t σ H fun vs H1 => r vs H1 Q
  refine Post.next back_E ha I hp fun vs ps ρ1 B1 H1 I1 s1 r1 q => ?_
  obtain ⟨ds, ed, q⟩ := q.opt
  obtain ⟨z, eg, q⟩ := q.opt
  exact hr H1 B1 vs ds z Q I1.tr (borA_of I1 r1.1 ed) eg fun v' H' sH rep => q.ok (I1.grow sH) (stp_grow sH) rep
theorem sn_A {r : List V → Hp → VK → Prop} {g : List D → Option D} (hr : NA N.K N.ca r g) (ha : SA N t fs) : SN N (tCB r t) (mA g fs) := by
  intro B ρ σ H Q I hp
  show t σ H fun vs H1 => r vs H1 Q
  refine Post.next back_N ha I hp fun vs ps ρ1 B1 H1 I1 s1 r1 q => ?_
  obtain ⟨ds, ed, q⟩ := q.opt
  obtain ⟨z, eg, q⟩ := q.opt
  exact hr H1 B1 vs ds z Q I1.tr (borA_of I1 r1.1 ed) eg fun p o H' hp sH ho c => q.mk I1 hp sH ho c
def mC (d : D) : MM D := fun ρ => .ok (d, ρ)
theorem se_C {v : V} {d : D} (h : ∀ H, Rep N.K N.ca H v d) : SE N (tC v) (mC d) := by
  intro B ρ σ H Q I hp
  exact hp.ok I Stp.rfl (h _)
theorem se_int {i : Int} : SE N (tC (.int i)) (mC (.int i)) := se_C fun _ => .int i
theorem se_bl {b : Bool} : SE N (tC (.bl b)) (mC (.bl b)) := se_C fun _ => .bl b
theorem se_non : SE N (tC .non) (mC .non) := se_C fun _ => .non
theorem se_str {x : Str} : SE N (tC (.str x)) (mC (.str x.cps.toList)) := se_C fun H => by
  have := Rep.str (K := N.K) (ca := N.ca) (H := H) x.cps.toList
  rw [S_tl] at this
  exact this
/-- values only -/
def vals : List Pl → Option (List D)
  | [] => some []
  | .v d :: ps => (vals ps).map (d :: ·)
  | _ :: _ => none
theorem vals_rep {vs : List V} {ps : List Pl} {ds : List D} (h : PlsOk N σ B ρ H vs ps) (e : vals ps = some ds) : RepA N.K N.ca (mask H B) vs ds := by
  induction h generalizing ds with
  | nil => cases e; exact .nil
  | cons h _ ih =>
    rename_i p ps _
    cases p with
    | v d =>
      simp only [vals, Option.map_eq_some_iff] at e
      obtain ⟨ds', e1, rfl⟩ := e
      exact .cons h (ih e1)
    | s i => cases e
    | n d => cases e
def mTup (fa : MM (List Pl)) : MM D := fun ρ => (fa ρ).bind fun x => (Rs.of (vals x.1)).bind fun ds => if ds.length ≤ sizeLine then .ok (.tup ds, x.2) else .no
def mLst (fa : MM (List Pl)) : MM D := fun ρ => (fa ρ).bind fun x => (Rs.of (vals x.1)).bind fun ds => if ds.length ≤ sizeLine then .ok (.lst ds, x.2) else .no
theorem Post.iff {γ δ : Type} {R' : Rel γ δ} {c : Prop} [Decidable c] {k : Rs (γ × Env')} {Q : δ → Hp → Prop} (h : Post R' N σ B ρ H (if c then k else .no) Q) : c ∧ Post R' N σ B ρ H k Q := by
  by_cases hc : c
  · rw [if_pos hc] at h; exact ⟨hc, h⟩
  · rw [if_neg hc] at h; exact h.elim
theorem se_tup (ha : SA N t fs) : SE N (tTup t) (mTup fs) := by
  intro B ρ σ H Q I hp
  show t σ H fun xs H1 => xs.length ≤ sizeLine ∧ ∀ p, H1 p = none → Q (.ref p) (upd H1 p (.tup xs))
  refine Post.next back_E ha I hp fun vs ps ρ1 B1 H1 I1 s1 r1 q => ?_
  obtain ⟨ds, ed, q⟩ := q.opt
  obtain ⟨hl, q⟩ := q.iff
  have hr := vals_rep r1.1 ed
  refine ⟨by rw [hr.len]; exact hl, fun p hp => ?_⟩
  have sm : SameH (mask H1 B1) (mask (upd H1 p (.tup vs)) B1) := mask_up (SameH.new hp)
  exact q.ok (I1.grow (SameH.new hp)) (stp_grow (SameH.new hp)) (.tup (mask_get (I1.notB hp) upd_same) (hr.up sm))
theorem sn_lst (ha : SA N t fs) : SN N (tLst t) (mLst fs) := by
  intro B ρ σ H Q I hp
  show t σ H fun xs H1 => xs.length ≤ sizeLine ∧ ∀ p, H1 p = none → Q (.ref p) (upd H1 p (.lst xs))
  refine Post.next back_N ha I hp fun vs ps ρ1 B1 H1 I1 s1 r1 q => ?_
  obtain ⟨ds, ed, q⟩ := q.opt
  obtain ⟨hl, q⟩ := q.iff
  have hr := vals_rep r1.1 ed
  exact ⟨by rw [hr.len]; exact hl, fun p hp => q.mk I1 hp (SameH.new hp) upd_same hr⟩
end

/-! ### M6. the operators one by one -/
section
variable {K : PySem.W.Frag} {ca : Str → Addr} {H H' : Hp} {B : Addr → Bool} {v : V}
theorem Ct.noImm {o : HO} {d : D} (h : Ct K ca H o d) : (∃ ds, d = .lst ds) ∨ (∃ es, d = .dk es) ∨ (∃ es, d = .dt es) ∨ ∃ c fs, d = .obj c fs := by
  cases o <;> cases d <;> first
    | exact h.elim
    | exact .inl ⟨_, rfl⟩
    | exact .inr (.inl ⟨_, rfl⟩)
    | exact .inr (.inr (.inl ⟨_, rfl⟩))
    | exact .inr (.inr (.inr ⟨_, _, rfl⟩))
theorem Bor.int {i : Int} (h : Bor K ca H B v (.int i)) : v = .int i := by
  rcases h with h | ⟨a, o, _, _, c⟩
  · cases h; rfl
  · rcases c.noImm with ⟨_, z⟩ | ⟨_, z⟩ | ⟨_, z⟩ | ⟨_, _, z⟩ <;> cases z
theorem Bor.bl {b : Bool} (h : Bor K ca H B v (.bl b)) : v = .bl b := by
  rcases h with h | ⟨a, o, _, _, c⟩
  · cases h; rfl
  · rcases c.noImm with ⟨_, z⟩ | ⟨_, z⟩ | ⟨_, z⟩ | ⟨_, _, z⟩ <;> cases z
theorem Bor.non (h : Bor K ca H B v .non) : v = .non := by
  rcases h with h | ⟨a, o, _, _, c⟩
  · cases h; rfl
  · rcases c.noImm with ⟨_, z⟩ | ⟨_, z⟩ | ⟨_, z⟩ | ⟨_, _, z⟩ <;> cases z
theorem Bor.str {x : List Nat} (h : Bor K ca H B v (.str x)) : v = .str (S x) := by
  rcases h with h | ⟨a, o, _, _, c⟩
  · cases h; rfl
  · rcases c.noImm with ⟨_, z⟩ | ⟨_, z⟩ | ⟨_, z⟩ | ⟨_, _, z⟩ <;> cases z
theorem Bor.ty {n : String} (h : Bor K ca H B v (.ty n)) : v = .ty n := by
  rcases h with h | ⟨a, o, _, _, c⟩
  · cases h; rfl
  · rcases c.noImm with ⟨_, z⟩ | ⟨_, z⟩ | ⟨_, z⟩ | ⟨_, _, z⟩ <;> cases z
theorem Bor.tpq {ds : List D} (h : Bor K ca H B v (.tpq ds)) : ∃ a xs, v = .ref a ∧ SqT K (mask H B) a xs ∧ RepA K ca (mask H B) xs ds := by
  rcases h with h | ⟨a, o, _, _, c⟩
  · cases h; exact ⟨_, _, rfl, ‹_›, ‹_›⟩
  · rcases c.noImm with ⟨_, z⟩ | ⟨_, z⟩ | ⟨_, z⟩ | ⟨_, _, z⟩ <;> cases z
theorem Bor.tup {ds : List D} (h : Bor K ca H B v (.tup ds)) : ∃ a xs, v = .ref a ∧ mask H B a = some (.tup xs) ∧ RepA K ca (mask H B) xs ds := by
  rcases h with h | ⟨a, o, _, _, c⟩
  · cases h; exact ⟨_, _, rfl, ‹_›, ‹_›⟩
  · rcases c.noImm with ⟨_, z⟩ | ⟨_, z⟩ | ⟨_, z⟩ | ⟨_, _, z⟩ <;> cases z
theorem Bor.lst {ds : List D} (h : Bor K ca H B v (.lst ds)) : ∃ a xs, v = .ref a ∧ H a = some (.lst xs) ∧ RepA K ca (mask H B) xs ds := by
  rcases h with h | ⟨a, o, rfl, e, c⟩
  · cases h with
    | lst h1 h2 => exact ⟨_, _, rfl, mask_le _ _ h1, h2⟩
  · cases o <;> first | exact c.elim | exact ⟨a, _, rfl, e, c⟩
theorem Bor.lsq {ds : List D} (h : Bor K ca H B v (.lsq ds)) : ∃ a xs, v = .ref a ∧ SqL K H a xs ∧ RepA K ca (mask H B) xs ds := by
  rcases h with h | ⟨a, o, rfl, e, c⟩
  · cases h with
    | lsq h1 h2 => exact ⟨_, _, rfl, sqL_up mask_le h1, h2⟩
  · cases o <;> exact c.elim
theorem Bor.dk {es : List (Key × D)} (h : Bor K ca H B v (.dk es)) : ∃ a kvs, v = .ref a ∧ Rd H a (.dK kvs) ∧ kvs.map (·.1) = es.map (·.1) ∧ RepA K ca (mask H B) (kvs.map (·.2)) (es.map (·.2)) := by
  rcases h with h | ⟨a, o, rfl, e, c⟩
  · cases h with
    | dk h1 h2 h3 => exact ⟨_, _, rfl, rd_up mask_le h1, h2, h3⟩
  · cases o <;> first | exact c.elim | exact ⟨a, _, rfl, .inl e, c.1, c.2⟩
theorem Bor.dt {es : List (List Key × D)} (h : Bor K ca H B v (.dt es)) : ∃ a kvs, v = .ref a ∧ Rd H a (.dT kvs) ∧ kvs.map (·.1) = es.map (·.1) ∧ RepA K ca (mask H B) (kvs.map (·.2)) (es.map (·.2)) := by
  rcases h with h | ⟨a, o, rfl, e, c⟩
  · cases h with
    | dt h1 h2 h3 => exact ⟨_, _, rfl, rd_up mask_le h1, h2, h3⟩
  · cases o <;> first | exact c.elim | exact ⟨a, _, rfl, .inl e, c.1, c.2⟩
end
def gII (h : Int → Int → D) : D → D → Option D
  | .int i, .int j => some (h i j)
  | _, _ => none
open Classical in
noncomputable def gIC (C : Int → Int → Prop) (h : Int → Int → D) : D → D → Option D
  | .int i, .int j => if C i j then some (h i j) else none
  | _, _ => none
theorem gIC_ok {C : Int → Int → Prop} {h : Int → Int → D} {i j : Int} (c : C i j) : gIC C h (.int i) (.int j) = some (h i j) := if_pos c
abbrev gAdd := gII fun i j => .int (i + j)
abbrev gDif := gII fun i j => .int (i - j)
noncomputable abbrev gMul := gIC CMul fun i j => .int (i * j)
noncomputable abbrev gMulW := gIC CMulW fun i j => .int (i * j)
noncomputable abbrev gMod := gIC (fun _ j => 0 < j) fun i j => .int (i % j)
noncomputable abbrev gModN := gIC (fun _ j => j ≠ 0) fun i j => .int (i.fmod j)
noncomputable abbrev gDivW := gIC CDivW fun i j => .int (i / j)
noncomputable abbrev gPow := gIC CPow fun i j => .int (i ^ j.toNat)
abbrev gLt := gII fun i j => .bl (decide (i < j))
abbrev gLe := gII fun i j => .bl (decide (i ≤ j))
abbrev gGt := gII fun i j => .bl (decide (j < i))
abbrev gGe := gII fun i j => .bl (decide (j ≤ i))
def gCatS : D → D → Option D
  | .str a, .str b => if a.length + b.length ≤ sizeLine then some (.str (a ++ b)) else none
  | _, _ => none
def gCatL : D → D → Option D
  | .lst a, .lst b => if a.length + b.length ≤ sizeLine then some (.lst (a ++ b)) else none
  | _, _ => none
def gCatT : D → D → Option D
  | .tup a, .tup b => if a.length + b.length ≤ sizeLine then some (.tup (a ++ b)) else none
  | _, _ => none
def gRepL : D → D → Option D
  | .lst a, .int k => if -(2 ^ 63) ≤ k ∧ k < 2 ^ 63 ∧ a.length * k.toNat ≤ sizeLine then some (.lst (List.replicate k.toNat a).flatten) else none
  | _, _ => none
/-- a scalar's value -/
def scD : D → Option V
  | .non => some .non
  | .bl b => some (.bl b)
  | .int i => some (.int i)
  | .str x => some (.str (S x))
  | _ => none
def gEqS (neg : Bool) (d e : D) : Option D := match scD d, scD e with
  | some x, some y => if scal x y = true then some (.bl (if neg then !decide (x = y) else decide (x = y))) else none
  | _, _ => none
def isNon : D → Bool
  | .non => true
  | _ => false
def gIsN (neg : Bool) (d e : D) : Option D := if isNon e then some (.bl (if neg then !isNon d else isNon d)) else none
def gIxL : D → D → Option D
  | .lst xs, .int i => atI xs i
  | .lsq xs, .int i => atI xs i
  | _, _ => none
def gIxT : D → D → Option D
  | .tup xs, .int i => atI xs i
  | .tpq xs, .int i => atI xs i
  | _, _ => none
def gIxS : D → D → Option D
  | .str x, .int i => if x.length ≤ sizeLine then (atI x i).map fun c => .str [c] else none
  | _, _ => none
section
variable {K : PySem.W.Frag} {ca : Str → Addr}
theorem ifo {α : Type} {c : Prop} [Decidable c] {x z : α} (h : (if c then some x else none) = some z) : c ∧ x = z := by
  by_cases hc : c
  · rw [if_pos hc] at h; exact ⟨hc, Option.some.inj h⟩
  · rw [if_neg hc] at h; cases h
theorem g2_II {h : Int → Int → V} {g : Int → Int → D} (hr : ∀ i j H, Rep K ca H (h i j) (g i j)) : G2 K ca (rI0 h) (gII g) := by
  intro H B v w d e z Q lv hv hw hg q
  cases d <;> cases e <;> first | cases hg | skip
  rename_i i j
  exact ⟨i, j, hv.int, hw.int, q _ H SameH.rfl (hr i j _)⟩
open Classical in
theorem g2_IC {C : Int → Int → Prop} {h : Int → Int → V} {g : Int → Int → D} (hr : ∀ i j H, Rep K ca H (h i j) (g i j)) : G2 K ca (rI C h) (gIC C g) := by
  intro H B v w d e z Q lv hv hw hg q
  cases d <;> cases e <;> first | (unfold gIC at hg; cases hg; done) | skip
  rename_i i j
  change (if C i j then some (g i j) else none) = some z at hg
  obtain ⟨c, rfl⟩ := ifo hg
  exact ⟨i, j, hv.int, hw.int, c, q _ H SameH.rfl (hr i j _)⟩
theorem g_add : G2 K ca (rI0 fun i j => V.int (i + j)) gAdd := g2_II fun i j _ => .int _
theorem g_sub : G2 K ca (rI0 fun i j => V.int (i - j)) gDif := g2_II fun i j _ => .int _
theorem g_mul : G2 K ca (rI CMul fun i j => V.int (i * j)) gMul := g2_IC fun i j _ => .int _
theorem g_mulW : G2 K ca (rI CMulW fun i j => V.int (i * j)) gMulW := g2_IC fun i j _ => .int _
theorem g_mod : G2 K ca (rI (fun _ j => 0 < j) fun i j => V.int (i % j)) gMod := g2_IC fun i j _ => .int _
theorem g_modN : G2 K ca (rI (fun _ j => j ≠ 0) fun i j => V.int (i.fmod j)) gModN := g2_IC fun i j _ => .int _
theorem g_divW : G2 K ca (rI CDivW fun i j => V.int (i / j)) gDivW := g2_IC fun i j _ => .int _
theorem g_pow : G2 K ca (rI CPow fun i j => V.int (i ^ j.toNat)) gPow := g2_IC fun i j _ => .int _
theorem g_lt : G2 K ca (rI0 fun i j => V.bl (decide (i < j))) gLt := g2_II fun i j _ => .bl _
theorem g_le : G2 K ca (rI0 fun i j => V.bl (decide (i ≤ j))) gLe := g2_II fun i j _ => .bl _
theorem g_gt : G2 K ca (rI0 fun i j => V.bl (decide (j < i))) gGt := g2_II fun i j _ => .bl _
theorem g_ge : G2 K ca (rI0 fun i j => V.bl (decide (j ≤ i))) gGe := g2_II fun i j _ => .bl _
theorem g_catS : G2 K ca (fun x y H Q => ∃ i j, x = V.str i ∧ y = V.str j ∧ i.length + j.length ≤ sizeLine ∧ Q (V.str (i ++ j)) H) gCatS := by
  intro H B v w d e z Q lv hv hw hg q
  cases d <;> cases e <;> first | cases hg | skip
  rename_i a b
  obtain ⟨c, rfl⟩ := ifo hg
  refine ⟨S a, S b, hv.str, hw.str, by rw [S_len, S_len]; exact c, q _ H SameH.rfl ?_⟩
  rw [S_cat]
  exact .str _
theorem n_catL : N2 K ca rCat gCatL := by
  intro H B v w d e z Q lv hv hw hg q
  cases d <;> cases e <;> first | cases hg | skip
  rename_i a b
  obtain ⟨c, rfl⟩ := ifo hg
  obtain ⟨p, xs, rfl, h1, r1⟩ := hv.lst
  obtain ⟨p', ys, rfl, h2, r2⟩ := hw.lst
  exact ⟨p, p', xs, ys, rfl, rfl, h1, h2, by rw [r1.len, r2.len]; exact c, fun p0 hp => q p0 _ _ hp (SameH.new hp) upd_same (r1.app r2)⟩
theorem g_catT : G2 K ca (rCatA K) gCatT := by
  intro H B v w d e z Q lv hv hw hg q
  cases d <;> cases e <;> first | cases hg | skip
  rename_i a b
  obtain ⟨c, rfl⟩ := ifo hg
  obtain ⟨p, xs, rfl, h1, r1⟩ := hv.tup
  obtain ⟨p', ys, rfl, h2, r2⟩ := hw.tup
  refine ⟨p, p', xs, ys, rfl, rfl, SqT.of (mask_le _ _ h1), SqT.of (mask_le _ _ h2), by rw [r1.len, r2.len]; exact c, fun e => ?_, fun _ e => ?_, fun _ _ p0 hp => ?_⟩
  · subst e
    cases r1
    exact q _ H SameH.rfl (.tup h2 r2)
  · subst e
    cases r2
    exact q _ H SameH.rfl (.tup h1 (by rw [List.append_nil]; exact r1))
  · refine q _ _ (SameH.new hp) (.tup (mask_get ?_ upd_same) ((r1.app r2).up (mask_up (SameH.new hp))))
    cases eb : B p0 with
    | false => rfl
    | true => exact absurd hp (lv p0 eb)
theorem rep_flat {H : Hp} {xs : List V} {ds : List D} (r : RepA K ca H xs ds) (n : Nat) : RepA K ca H (List.replicate n xs).flatten (List.replicate n ds).flatten := by
  induction n with
  | zero => exact .nil
  | succ n ih => rw [List.replicate_succ, List.replicate_succ, List.flatten_cons, List.flatten_cons]; exact r.app ih
theorem n_repL : N2 K ca rRep gRepL := by
  intro H B v w d e z Q lv hv hw hg q
  cases d <;> cases e <;> first | cases hg | skip
  rename_i a k
  obtain ⟨⟨c1, c2, c3⟩, rfl⟩ := ifo hg
  obtain ⟨p, xs, rfl, h1, r1⟩ := hv.lst
  exact ⟨p, k, xs, rfl, hw.int, h1, c1, c2, by rw [r1.len]; exact c3, fun p0 hp => q p0 _ _ hp (SameH.new hp) upd_same (rep_flat r1 _)⟩
theorem bor_sc {H : Hp} {B : Addr → Bool} {v x : V} {d : D} (h : Bor K ca H B v d) (e : scD d = some x) : v = x := by
  cases d <;> first | cases e | skip
  · exact h.non
  · exact h.bl
  · exact h.int
  · exact h.str
theorem g_eqS : G2 K ca rEq (gEqS false) := by
  intro H B v w d e z Q lv hv hw hg q
  unfold gEqS at hg
  split at hg
  · rename_i x y e1 e2
    obtain ⟨c, rfl⟩ := ifo hg
    rw [bor_sc hv e1, bor_sc hw e2]
    exact ⟨c, q _ H SameH.rfl (.bl _)⟩
  · cases hg
theorem g_neS : G2 K ca rNe (gEqS true) := by
  intro H B v w d e z Q lv hv hw hg q
  unfold gEqS at hg
  split at hg
  · rename_i x y e1 e2
    obtain ⟨c, rfl⟩ := ifo hg
    rw [bor_sc hv e1, bor_sc hw e2]
    exact ⟨c, q _ H SameH.rfl (.bl _)⟩
  · cases hg
theorem bor_isN {H : Hp} {B : Addr → Bool} {v : V} {d : D} (h : Bor K ca H B v d) : decide (v = .non) = isNon d := by
  cases d with
  | non => rw [h.non]; rfl
  | bl b => rw [h.bl]; rfl
  | int i => rw [h.int]; rfl
  | str x => rw [h.str]; rfl
  | ty n => rw [h.ty]; rfl
  | tup ds => obtain ⟨a, xs, rfl, _⟩ := h.tup; rfl
  | tpq ds => obtain ⟨a, xs, rfl, _⟩ := h.tpq; rfl
  | lst ds => obtain ⟨a, xs, rfl, _⟩ := h.lst; rfl
  | lsq ds => obtain ⟨a, xs, rfl, _⟩ := h.lsq; rfl
  | dk es => obtain ⟨a, xs, rfl, _⟩ := h.dk; rfl
  | dt es => obtain ⟨a, xs, rfl, _⟩ := h.dt; rfl
  | obj c fs =>
    rcases h with h | ⟨a, o, rfl, _⟩
    · cases h; rfl
    · rfl
  | exn c fs =>
    rcases h with h | ⟨a, o, rfl, _⟩
    · cases h <;> rfl
    · rfl
theorem isNon_eq {d : D} (h : isNon d = true) : d = .non := by cases d <;> first | rfl | cases h
theorem g_isN : G2 K ca (fun x y H Q => y = V.non ∧ Q (V.bl (decide (x = V.non))) H) (gIsN false) := by
  intro H B v w d e z Q lv hv hw hg q
  obtain ⟨c, rfl⟩ := ifo hg
  have := isNon_eq c
  subst this
  refine ⟨hw.non, ?_⟩
  rw [bor_isN hv]
  exact q _ H SameH.rfl (.bl _)
theorem g_notN : G2 K ca (fun x y H Q => y = V.non ∧ Q (V.bl (!decide (x = V.non))) H) (gIsN true) := by
  intro H B v w d e z Q lv hv hw hg q
  obtain ⟨c, rfl⟩ := ifo hg
  have := isNon_eq c
  subst this
  refine ⟨hw.non, ?_⟩
  rw [bor_isN hv]
  exact q _ H SameH.rfl (.bl _)
theorem atI_rep {H : Hp} {xs : List V} {ds : List D} (r : RepA K ca H xs ds) {i : Int} {d : D} (e : atI ds i = some d) : ∃ v, atI xs i = some v ∧ Rep K ca H v d := by
  unfold atI at e ⊢
  rw [r.len]
  cases h : ixN ds.length i with
  | none => rw [h] at e; cases e
  | some j => rw [h] at e; exact r.get e
theorem g_ixL : G2 K ca (rIxL K) gIxL := by
  intro H B v w d e z Q lv hv hw hg q
  cases d <;> cases e <;> first | cases hg | skip
  · rename_i ds i
    obtain ⟨p, xs, rfl, h1, r1⟩ := hv.lst
    obtain ⟨x, ex, rx⟩ := atI_rep r1 (show atI ds i = some z from hg)
    exact ⟨p, xs, i, x, rfl, hw.int, SqL.of h1, ex, q _ H SameH.rfl rx⟩
  · rename_i ds i
    obtain ⟨p, xs, rfl, h1, r1⟩ := hv.lsq
    obtain ⟨x, ex, rx⟩ := atI_rep r1 (show atI ds i = some z from hg)
    exact ⟨p, xs, i, x, rfl, hw.int, h1, ex, q _ H SameH.rfl rx⟩
theorem g_ixT : G2 K ca (rIxT K) gIxT := by
  intro H B v w d e z Q lv hv hw hg q
  cases d <;> cases e <;> first | cases hg | skip
  · rename_i ds i
    obtain ⟨p, xs, rfl, h1, r1⟩ := hv.tup
    obtain ⟨x, ex, rx⟩ := atI_rep r1 (show atI ds i = some z from hg)
    exact ⟨p, xs, i, x, rfl, hw.int, SqT.of (mask_le _ _ h1), ex, q _ H SameH.rfl rx⟩
  · rename_i ds i
    obtain ⟨p, xs, rfl, h1, r1⟩ := hv.tpq
    obtain ⟨x, ex, rx⟩ := atI_rep r1 (show atI ds i = some z from hg)
    exact ⟨p, xs, i, x, rfl, hw.int, sqT_up mask_le h1, ex, q _ H SameH.rfl rx⟩
theorem g_ixS : G2 K ca rIxS gIxS := by
  intro H B v w d e z Q lv hv hw hg q
  cases d <;> cases e <;> first | cases hg | skip
  rename_i x i
  change (if x.length ≤ sizeLine then (atI x i).map fun c => D.str [c] else none) = some z at hg
  by_cases c : x.length ≤ sizeLine
  · rw [if_pos c, Option.map_eq_some_iff] at hg
    obtain ⟨k, ek, rfl⟩ := hg
    exact ⟨S x, i, k, hv.str, hw.int, by rw [S_len]; exact c, ek, q _ H SameH.rfl (.str [k])⟩
  · rw [if_neg c] at hg; cases hg
end

/-! ### M7. built-ins, slices, truth, and what chooses -/
section
variable {K : PySem.W.Frag} {ca : Str → Addr}
def gLen : List D → Option D
  | [.lst xs] | [.lsq xs] | [.tup xs] | [.tpq xs] => some (.int xs.length)
  | _ => none
def gLenS : List D → Option D
  | [.str x] => if x.length ≤ sizeLine then some (.int x.length) else none
  | _ => none
def gLst : List D → Option D
  | [.lst xs] | [.lsq xs] | [.tup xs] => some (.lst xs)
  | _ => none
def gLstS : List D → Option D
  | [.str x] => if x.length ≤ sizeLine then some (.lst (x.map fun c => .str [c])) else none
  | _ => none
def gTpl : List D → Option D
  | [.lst xs] | [.lsq xs] | [.tup xs] => some (.tup xs)
  | _ => none
def gAbs : List D → Option D
  | [.int i] => some (.int (if i < 0 then -i else i))
  | _ => none
def gInt : List D → Option D
  | [.int i] => some (.int i)
  | [.bl k] => some (.int (if k = true then 1 else 0))
  | _ => none
def gMax : List D → Option D
  | [.int i, .int j] => some (.int (if j > i then j else i))
  | _ => none
def gMin : List D → Option D
  | [.int i, .int j] => some (.int (if j < i then j else i))
  | _ => none
theorem bA1 {H : Hp} {B : Addr → Bool} {vs : List V} {d : D} (h : BorA K ca H B vs [d]) : ∃ v, vs = [v] ∧ Bor K ca H B v d := by
  cases h with
  | cons h t => cases t; exact ⟨_, rfl, h⟩
theorem bA2 {H : Hp} {B : Addr → Bool} {vs : List V} {d e : D} (h : BorA K ca H B vs [d, e]) : ∃ v w, vs = [v, w] ∧ Bor K ca H B v d ∧ Bor K ca H B w e := by
  cases h with
  | cons h t =>
    obtain ⟨w, rfl, h2⟩ := bA1 t
    exact ⟨_, w, rfl, h, h2⟩
theorem a_len : GA K ca (fun xs H Q => ∃ p ys, xs = [.ref p] ∧ (SqL K H p ys ∨ SqT K H p ys) ∧ Q (.int ys.length) H) gLen := by
  intro H B vs ds z Q lv hb hg q
  unfold gLen at hg
  split at hg
  · cases hg
    obtain ⟨v, rfl, h⟩ := bA1 hb
    obtain ⟨p, xs, rfl, h1, r1⟩ := h.lst
    refine ⟨p, xs, rfl, .inl (SqL.of h1), ?_⟩
    rw [r1.len]
    exact q _ H SameH.rfl (.int _)
  · cases hg
    obtain ⟨v, rfl, h⟩ := bA1 hb
    obtain ⟨p, xs, rfl, h1, r1⟩ := h.lsq
    refine ⟨p, xs, rfl, .inl h1, ?_⟩
    rw [r1.len]
    exact q _ H SameH.rfl (.int _)
  · cases hg
    obtain ⟨v, rfl, h⟩ := bA1 hb
    obtain ⟨p, xs, rfl, h1, r1⟩ := h.tup
    refine ⟨p, xs, rfl, .inr (SqT.of (mask_le _ _ h1)), ?_⟩
    rw [r1.len]
    exact q _ H SameH.rfl (.int _)
  · cases hg
    obtain ⟨v, rfl, h⟩ := bA1 hb
    obtain ⟨p, xs, rfl, h1, r1⟩ := h.tpq
    refine ⟨p, xs, rfl, .inr (sqT_up mask_le h1), ?_⟩
    rw [r1.len]
    exact q _ H SameH.rfl (.int _)
  · cases hg
theorem a_lenS : GA K ca (fun xs H Q => ∃ z : Str, xs = [V.str z] ∧ z.length ≤ sizeLine ∧ Q (V.int z.length) H) gLenS := by
  intro H B vs ds z Q lv hb hg q
  unfold gLenS at hg
  split at hg
  · obtain ⟨c, rfl⟩ := ifo hg
    obtain ⟨v, rfl, h⟩ := bA1 hb
    refine ⟨S _, by rw [h.str], by rw [S_len]; exact c, ?_⟩
    rw [S_len]
    exact q _ H SameH.rfl (.int _)
  · cases hg
theorem a_abs : GA K ca (fun xs H Q => ∃ i : Int, xs = [V.int i] ∧ Q (V.int (if i < 0 then -i else i)) H) gAbs := by
  intro H B vs ds z Q lv hb hg q
  unfold gAbs at hg
  split at hg
  · cases hg
    obtain ⟨v, rfl, h⟩ := bA1 hb
    exact ⟨_, by rw [h.int], q _ H SameH.rfl (.int _)⟩
  · cases hg
theorem a_int : GA K ca (fun xs H Q => (∃ i : Int, xs = [V.int i] ∧ Q (V.int i) H) ∨ ∃ k : Bool, xs = [V.bl k] ∧ Q (V.int (if k = true then 1 else 0)) H) gInt := by
  intro H B vs ds z Q lv hb hg q
  unfold gInt at hg
  split at hg
  · cases hg
    obtain ⟨v, rfl, h⟩ := bA1 hb
    exact .inl ⟨_, by rw [h.int], q _ H SameH.rfl (.int _)⟩
  · cases hg
    obtain ⟨v, rfl, h⟩ := bA1 hb
    exact .inr ⟨_, by rw [h.bl], q _ H SameH.rfl (.int _)⟩
  · cases hg
theorem a_max : GA K ca (fun xs H Q => ∃ i j : Int, xs = [V.int i, V.int j] ∧ Q (V.int (if j > i then j else i)) H) gMax := by
  intro H B vs ds z Q lv hb hg q
  unfold gMax at hg
  split at hg
  · cases hg
    obtain ⟨v, w, rfl, h, h'⟩ := bA2 hb
    exact ⟨_, _, by rw [h.int, h'.int], q _ H SameH.rfl (.int _)⟩
  · cases hg
theorem a_min : GA K ca (fun xs H Q => ∃ i j : Int, xs = [V.int i, V.int j] ∧ Q (V.int (if j < i then j else i)) H) gMin := by
  intro H B vs ds z Q lv hb hg q
  unfold gMin at hg
  split at hg
  · cases hg
    obtain ⟨v, w, rfl, h, h'⟩ := bA2 hb
    exact ⟨_, _, by rw [h.int, h'.int], q _ H SameH.rfl (.int _)⟩
  · cases hg
theorem a_lst : NA K ca (fun xs H Q => ∃ p ys, xs = [.ref p] ∧ (SqL K H p ys ∨ SqT K H p ys) ∧ ∀ l, H l = none → Q (.ref l) (upd H l (.lst ys))) gLst := by
  intro H B vs ds z Q lv hb hg q
  unfold gLst at hg
  split at hg
  · cases hg
    obtain ⟨v, rfl, h⟩ := bA1 hb
    obtain ⟨p, xs, rfl, h1, r1⟩ := h.lst
    exact ⟨p, xs, rfl, .inl (SqL.of h1), fun l hl => q l _ _ hl (SameH.new hl) upd_same r1⟩
  · cases hg
    obtain ⟨v, rfl, h⟩ := bA1 hb
    obtain ⟨p, xs, rfl, h1, r1⟩ := h.lsq
    exact ⟨p, xs, rfl, .inl h1, fun l hl => q l _ _ hl (SameH.new hl) upd_same r1⟩
  · cases hg
    obtain ⟨v, rfl, h⟩ := bA1 hb
    obtain ⟨p, xs, rfl, h1, r1⟩ := h.tup
    exact ⟨p, xs, rfl, .inr (SqT.of (mask_le _ _ h1)), fun l hl => q l _ _ hl (SameH.new hl) upd_same r1⟩
  · cases hg
theorem rep_signs {H : Hp} (x : List Nat) : RepA K ca H (x.map fun c => V.str ⟨#[c]⟩) (x.map fun c => D.str [c]) := by
  induction x with
  | nil => exact .nil
  | cons c x ih => exact .cons (.str [c]) ih
theorem a_lstS : NA K ca (fun xs H Q => ∃ z : Str, xs = [.str z] ∧ z.length ≤ sizeLine ∧ ∀ p, H p = none → Q (.ref p) (upd H p (.lst (z.cps.toList.map fun c => V.str ⟨#[c]⟩)))) gLstS := by
  intro H B vs ds z Q lv hb hg q
  unfold gLstS at hg
  split at hg
  · obtain ⟨c, rfl⟩ := ifo hg
    obtain ⟨v, rfl, h⟩ := bA1 hb
    exact ⟨S _, by rw [h.str], by rw [S_len]; exact c, fun l hl => q l _ _ hl (SameH.new hl) upd_same (rep_signs _)⟩
  · cases hg
theorem a_tpl : GA K ca (fun xs H Q => ∃ p ys, xs = [.ref p] ∧ ((SqL K H p ys ∧ ∀ l, H l = none → Q (.ref l) (upd H l (.tup ys))) ∨ (SqT K H p ys ∧ Q (.ref p) H))) gTpl := by
  intro H B vs ds z Q lv hb hg q
  have fin : ∀ (l : Addr) (xs : List V) (ds : List D), H l = none → RepA K ca (mask H B) xs ds → Rep K ca (mask (upd H l (.tup xs)) B) (.ref l) (.tup ds) := fun l xs ds hl r => by
    refine .tup (mask_get ?_ upd_same) (r.up (mask_up (SameH.new hl)))
    cases eb : B l with
    | false => rfl
    | true => exact absurd hl (lv l eb)
  unfold gTpl at hg
  split at hg
  · cases hg
    obtain ⟨v, rfl, h⟩ := bA1 hb
    obtain ⟨p, xs, rfl, h1, r1⟩ := h.lst
    exact ⟨p, xs, rfl, .inl ⟨SqL.of h1, fun l hl => q _ _ (SameH.new hl) (fin l _ _ hl r1)⟩⟩
  · cases hg
    obtain ⟨v, rfl, h⟩ := bA1 hb
    obtain ⟨p, xs, rfl, h1, r1⟩ := h.lsq
    exact ⟨p, xs, rfl, .inl ⟨h1, fun l hl => q _ _ (SameH.new hl) (fin l _ _ hl r1)⟩⟩
  · cases hg
    obtain ⟨v, rfl, h⟩ := bA1 hb
    obtain ⟨p, xs, rfl, h1, r1⟩ := h.tup
    exact ⟨p, xs, rfl, .inr ⟨SqT.of (mask_le _ _ h1), q _ H SameH.rfl (.tup h1 r1)⟩⟩
  · cases hg
end
/-- a slice's part -/
def rO : Rel (Option Int) (Option Int) := fun _ _ _ _ _ _ _ _ b c => b = c
theorem back_O : Back rO := fun _ _ _ _ _ _ _ _ _ _ _ _ _ _ r => r
abbrev SO (N : Cn) (t : TO) (f : MM (Option Int)) : Prop := Jd rO N t f
def mNoPart : MM (Option Int) := fun ρ => .ok (none, ρ)
def dInt : D → Option Int
  | .int i => some i
  | _ => none
def dBl : D → Option Bool
  | .bl b => some b
  | _ => none
def mPart (f : MM D) : MM (Option Int) := fun ρ => (f ρ).bind fun x => (Rs.of (dInt x.1)).bind fun i => .ok (some i, x.2)
def cutD {α : Type} (xs : List α) (lo hi : Option Int) : List α := (xs.drop (HT.sIx xs.length 0 lo)).take (HT.sIx xs.length xs.length hi - HT.sIx xs.length 0 lo)
def sliceL (x : List Nat) (lo hi : Option Int) : List Nat := (Txt.slice (S x) lo hi).cps.toList
def gSlL (d : D) (lo hi : Option Int) : Option D := match d with
  | .lst xs | .lsq xs => some (.lst (cutD xs lo hi))
  | _ => none
def gSlT (d : D) (lo hi : Option Int) : Option D := match d with
  | .tup xs => if HT.sIx xs.length 0 lo = 0 ∧ HT.sIx xs.length xs.length hi = xs.length then none else some (.tup (cutD xs lo hi))
  | _ => none
def gSlS (d : D) (lo hi : Option Int) : Option D := match d with
  | .str x => if x.length ≤ sizeLine then some (.str (sliceL x lo hi)) else none
  | _ => none
def m3 (g : D → Option Int → Option Int → Option D) (fa : MM Pl) (fl fh : MM (Option Int)) : MM D := fun ρ => (fa ρ).bind fun x => (fl x.2).bind fun l => (fh l.2).bind fun h =>
  (Rs.of (plD h.2 x.1)).bind fun d => (Rs.of (g d l.1 h.1)).bind fun z => .ok (z, h.2)
def mNot (f : MM D) : MM D := fun ρ => (f ρ).bind fun x => (Rs.of (dBl x.1)).bind fun b => .ok (.bl (!b), x.2)
def mAndV (f g : MM D) : MM D := fun ρ => (f ρ).bind fun x => (Rs.of (dBl x.1)).bind fun b => if b = true then g x.2 else .ok (.bl false, x.2)
def mOrV (f g : MM D) : MM D := fun ρ => (f ρ).bind fun x => (Rs.of (dBl x.1)).bind fun b => if b = true then .ok (.bl true, x.2) else g x.2
def mIfE {α : Type} (c : MM Bool) (f g : MM α) : MM α := fun ρ => (c ρ).bind fun x => if x.1 = true then f x.2 else g x.2
def tB' (f : MM D) : MM Bool := fun ρ => (f ρ).bind fun x => (Rs.of (dBl x.1)).bind fun b => .ok (b, x.2)
def tAnd' (f g : MM Bool) : MM Bool := fun ρ => (f ρ).bind fun x => if x.1 = true then g x.2 else .ok (false, x.2)
def tOr' (f g : MM Bool) : MM Bool := fun ρ => (f ρ).bind fun x => if x.1 = true then .ok (true, x.2) else g x.2
def tNot' (f : MM Bool) : MM Bool := fun ρ => (f ρ).bind fun x => .ok (!x.1, x.2)
/-- a < b < c -/
def mChain (g g' : D → D → Option D) (fa fb fc : MM Pl) : MM D := fun ρ => (fa ρ).bind fun x => (fb x.2).bind fun y => (Rs.of (plD y.2 x.1)).bind fun d => (Rs.of (plD y.2 y.1)).bind fun e => (Rs.of (g d e)).bind fun z =>
  (Rs.of (dBl z)).bind fun k => if k = true then (fc y.2).bind fun w => (Rs.of (plD w.2 y.1)).bind fun e2 => (Rs.of (plD w.2 w.1)).bind fun u => (Rs.of (g' e2 u)).bind fun z => .ok (z, w.2) else .ok (.bl false, y.2)
section
variable {N : Cn} {B B' B1 B2 : Addr → Bool} {ρ ρ' ρ1 ρ2 : Env'} {σ : L2.St} {H H' H1 H2 : Hp} {te ta tb tc : TE} {f g : MM D} {fa fb fc : MM Pl} {tl th : TO} {fl fh : MM (Option Int)} {tA tA' : TT} {c c' : MM Bool}
theorem rep_int {H : Hp} {v : V} {d : D} {i : Int} (h : Rep N.K N.ca H v d) (e : dInt d = some i) : v = .int i := by
  cases d <;> first | (cases e; done) | skip
  cases e; cases h; rfl
theorem rep_bl {H : Hp} {v : V} {d : D} {b : Bool} (h : Rep N.K N.ca H v d) (e : dBl d = some b) : v = .bl b := by
  cases d <;> first | (cases e; done) | skip
  cases e; cases h; rfl
theorem so_no : SO N tNoPart mNoPart := fun B ρ σ H Q I hp => hp.ok I Stp.rfl rfl
theorem so_part (h : SE N te f) : SO N (tPart te) (mPart f) := by
  intro B ρ σ H Q I hp
  unfold tPart
  refine Post.next back_O h I hp fun v d ρ1 B1 H1 I1 s1 r1 q => ?_
  obtain ⟨i, ei, q⟩ := q.opt
  exact ⟨i, rep_int r1 ei, q.ok I1 Stp.rfl rfl⟩
theorem cut_rep {K : PySem.W.Frag} {ca : Str → Addr} {H : Hp} {xs : List V} {ds : List D} (r : RepA K ca H xs ds) (lo hi : Option Int) : RepA K ca H (cutV xs lo hi) (cutD ds lo hi) := by
  unfold cutV cutD
  rw [r.len]
  exact (r.drop _).take _
theorem sn_sl {r : V → Option Int → Option Int → Hp → VK → Prop} {g : D → Option Int → Option Int → Option D} (ha : SPl N ta fa) (hl : SO N tl fl) (hh : SO N th fh)
    (hr : ∀ H B v d lo hi z Q, Live B H → Bor N.K N.ca H B v d → g d lo hi = some z → (∀ p o H', H p = none → SameH H H' → H' p = some o → Ct N.K N.ca (mask H B) o z → Q (.ref p) H') → r v lo hi H Q) : SN N (tSl r ta tl th) (m3 g fa fl fh) := by
  intro B ρ σ H Q I hp
  show ta σ H fun x H1 => tl σ H1 fun l H2 => th σ H2 fun u H3 => r x l u H3 Q
  refine Post.next back_N ha I hp fun v p ρ1 B1 H1 I1 s1 r1 q => ?_
  refine Post.next back_N hl I1 q fun lo lo' ρ2 B2 H2 I2 s2 r2 q => ?_
  refine Post.next back_N hh I2 q fun hi hi' ρ3 B3 H3 I3 s3 r3 q => ?_
  cases (show lo = lo' from r2)
  cases (show hi = hi' from r3)
  obtain ⟨d, ed, q⟩ := q.opt
  obtain ⟨z, eg, q⟩ := q.opt
  exact hr H3 B3 v d lo hi z Q I3.tr (bor_of I3 (r1.1.up (s2.tr s3) I1) ed) eg fun p0 o H' hp0 sH ho c => q.mk I3 hp0 sH ho c
theorem se_sl {r : V → Option Int → Option Int → Hp → VK → Prop} {g : D → Option Int → Option Int → Option D} (ha : SPl N ta fa) (hl : SO N tl fl) (hh : SO N th fh)
    (hr : ∀ H B v d lo hi z Q, Live B H → Bor N.K N.ca H B v d → g d lo hi = some z → (∀ v' H', SameH H H' → Rep N.K N.ca (mask H' B) v' z → Q v' H') → r v lo hi H Q) : SE N (tSl r ta tl th) (m3 g fa fl fh) := by
  intro B ρ σ H Q I hp
  show ta σ H fun x H1 => tl σ H1 fun l H2 => th σ H2 fun u H3 => r x l u H3 Q
  refine Post.next back_E ha I hp fun v p ρ1 B1 H1 I1 s1 r1 q => ?_
  refine Post.next back_E hl I1 q fun lo lo' ρ2 B2 H2 I2 s2 r2 q => ?_
  refine Post.next back_E hh I2 q fun hi hi' ρ3 B3 H3 I3 s3 r3 q => ?_
  cases (show lo = lo' from r2)
  cases (show hi = hi' from r3)
  obtain ⟨d, ed, q⟩ := q.opt
  obtain ⟨z, eg, q⟩ := q.opt
  exact hr H3 B3 v d lo hi z Q I3.tr (bor_of I3 (r1.1.up (s2.tr s3) I1) ed) eg fun v' H' sH rep => q.ok (I3.grow sH) (stp_grow sH) rep
theorem sn_slL (ha : SPl N ta fa) (hl : SO N tl fl) (hh : SO N th fh) : SN N (tSl (rSlL N.K) ta tl th) (m3 gSlL fa fl fh) :=
  sn_sl ha hl hh fun H B v d lo hi z Q lv hb hg q => by
    cases d <;> first | (cases hg; done) | skip
    · cases hg
      obtain ⟨p, xs, rfl, h1, r1⟩ := hb.lst
      exact ⟨p, xs, rfl, SqL.of h1, fun p0 hp => q p0 _ _ hp (SameH.new hp) upd_same (cut_rep r1 lo hi)⟩
    · cases hg
      obtain ⟨p, xs, rfl, h1, r1⟩ := hb.lsq
      exact ⟨p, xs, rfl, h1, fun p0 hp => q p0 _ _ hp (SameH.new hp) upd_same (cut_rep r1 lo hi)⟩
theorem se_slT (ha : SPl N ta fa) (hl : SO N tl fl) (hh : SO N th fh) : SE N (tSl (rSlT N.K) ta tl th) (m3 gSlT fa fl fh) :=
  se_sl ha hl hh fun H B v d lo hi z Q lv hb hg q => by
    cases d <;> first | (cases hg; done) | skip
    rename_i ds
    change (if HT.sIx ds.length 0 lo = 0 ∧ HT.sIx ds.length ds.length hi = ds.length then none else some (D.tup (cutD ds lo hi))) = some z at hg
    by_cases c : HT.sIx ds.length 0 lo = 0 ∧ HT.sIx ds.length ds.length hi = ds.length
    · rw [if_pos c] at hg; cases hg
    · rw [if_neg c] at hg
      cases hg
      obtain ⟨p, xs, rfl, h1, r1⟩ := hb.tup
      refine ⟨p, xs, rfl, SqT.of (mask_le _ _ h1), by rw [r1.len]; exact c, fun p0 hp => q _ _ (SameH.new hp) (.tup (mask_get ?_ upd_same) ((cut_rep r1 lo hi).up (mask_up (SameH.new hp))))⟩
      cases eb : B p0 with
      | false => rfl
      | true => exact absurd hp (lv p0 eb)
theorem se_slS (ha : SPl N ta fa) (hl : SO N tl fl) (hh : SO N th fh) : SE N (tSl C8.rSlX ta tl th) (m3 gSlS fa fl fh) :=
  se_sl ha hl hh fun H B v d lo hi z Q lv hb hg q => by
    cases d <;> first | (cases hg; done) | skip
    obtain ⟨c, rfl⟩ := ifo hg
    refine ⟨S _, hb.str, by rw [S_len]; exact c, ?_⟩
    rw [← S_tl (Txt.slice _ lo hi)]
    exact q _ H SameH.rfl (.str _)
theorem se_un {r : V → Hp → VK → Prop} {g : D → Option D} (hr : G1 N.K N.ca r g) (ha : SPl N ta fa) : SE N (tUn r ta) (m1 g fa) := se_1 (r := r) hr ha
def gNeg : D → Option D
  | .int i => some (.int (-i))
  | _ => none
theorem g_neg {K : PySem.W.Frag} {ca : Str → Addr} : G1 K ca (rU fun i => V.int (-i)) gNeg := by
  intro H B v d z Q lv hv hg q
  cases d <;> first | (cases hg; done) | skip
  cases hg
  exact ⟨_, hv.int, q _ H SameH.rfl (.int _)⟩
theorem se_not (h : SE N te f) : SE N (tNotV te) (mNot f) := by
  intro B ρ σ H Q I hp
  unfold tNotV
  refine Post.next back_E h I hp fun v d ρ1 B1 H1 I1 s1 r1 q => ?_
  obtain ⟨b, eb, q⟩ := q.opt
  exact ⟨b, rep_bl r1 eb, q.ok I1 Stp.rfl (.bl _)⟩
theorem se_and (h : SE N ta f) (h' : SE N tb g) : SE N (tAndV ta tb) (mAndV f g) := by
  intro B ρ σ H Q I hp
  unfold tAndV
  refine Post.next back_E h I hp fun v d ρ1 B1 H1 I1 s1 r1 q => ?_
  obtain ⟨b, eb, q⟩ := q.opt
  refine ⟨b, rep_bl r1 eb, ?_⟩
  by_cases hb : b = true
  · rw [if_pos hb] at q ⊢
    exact h' B1 ρ1 σ H1 Q I1 q
  · rw [if_neg hb] at q ⊢
    exact q.ok I1 Stp.rfl (.bl _)
theorem se_or (h : SE N ta f) (h' : SE N tb g) : SE N (tOrV ta tb) (mOrV f g) := by
  intro B ρ σ H Q I hp
  unfold tOrV
  refine Post.next back_E h I hp fun v d ρ1 B1 H1 I1 s1 r1 q => ?_
  obtain ⟨b, eb, q⟩ := q.opt
  refine ⟨b, rep_bl r1 eb, ?_⟩
  by_cases hb : b = true
  · rw [if_pos hb] at q ⊢
    exact q.ok I1 Stp.rfl (.bl _)
  · rw [if_neg hb] at q ⊢
    exact h' B1 ρ1 σ H1 Q I1 q
theorem jd_if {α β : Type} {R : Rel α β} (bk : Back R) {ta tb : L2.St → Hp → (β → Hp → Prop) → Prop} {f g : MM α} (hc : STt N tA c) (h : Jd R N ta f) (h' : Jd R N tb g) : Jd R N (fun σ H Q => tA σ H fun b H1 => if b = true then ta σ H1 Q else tb σ H1 Q) (mIfE c f g) := by
  intro B ρ σ H Q I hp
  refine Post.next bk hc I hp fun b b' ρ1 B1 H1 I1 s1 r1 q => ?_
  cases (show b = b' from r1)
  by_cases hb : b = true
  · simp only [if_pos hb] at q ⊢
    exact h B1 ρ1 σ H1 Q I1 q
  · simp only [if_neg hb] at q ⊢
    exact h' B1 ρ1 σ H1 Q I1 q
theorem se_if (hc : STt N tA c) (h : SE N ta f) (h' : SE N tb g) : SE N (tIf tA ta tb) (mIfE c f g) := jd_if back_E hc h h'
theorem sn_if (hc : STt N tA c) (h : SN N ta f) (h' : SN N tb g) : SN N (tIf tA ta tb) (mIfE c f g) := jd_if back_N hc h h'
theorem st_B (h : SE N te f) : STt N (tB te) (tB' f) := by
  intro B ρ σ H Q I hp
  unfold tB
  refine Post.next back_T h I hp fun v d ρ1 B1 H1 I1 s1 r1 q => ?_
  obtain ⟨b, eb, q⟩ := q.opt
  exact ⟨b, rep_bl r1 eb, q.ok I1 Stp.rfl rfl⟩
theorem st_test (h : SE N te f) : STt N (tTest te) (tB' f) := st_B h
theorem st_and (h : STt N tA c) (h' : STt N tA' c') : STt N (L2.tAnd tA tA') (tAnd' c c') := by
  intro B ρ σ H Q I hp
  unfold L2.tAnd
  refine Post.next back_T h I hp fun b b' ρ1 B1 H1 I1 s1 r1 q => ?_
  cases (show b = b' from r1)
  by_cases hb : b = true
  · simp only [if_pos hb] at q ⊢
    exact h' B1 ρ1 σ H1 Q I1 q
  · simp only [if_neg hb] at q ⊢
    exact q.ok I1 Stp.rfl rfl
theorem st_or (h : STt N tA c) (h' : STt N tA' c') : STt N (L2.tOr tA tA') (tOr' c c') := by
  intro B ρ σ H Q I hp
  unfold L2.tOr
  refine Post.next back_T h I hp fun b b' ρ1 B1 H1 I1 s1 r1 q => ?_
  cases (show b = b' from r1)
  by_cases hb : b = true
  · simp only [if_pos hb] at q ⊢
    exact q.ok I1 Stp.rfl rfl
  · simp only [if_neg hb] at q ⊢
    exact h' B1 ρ1 σ H1 Q I1 q
theorem st_not (h : STt N tA c) : STt N (L2.tNot tA) (tNot' c) := by
  intro B ρ σ H Q I hp
  unfold L2.tNot
  refine Post.next back_T h I hp fun b b' ρ1 B1 H1 I1 s1 r1 q => ?_
  cases (show b = b' from r1)
  exact q.ok I1 Stp.rfl rfl
theorem se_chain {r r' : R2} {g g' : D → D → Option D} (hr : G2 N.K N.ca r g) (hr' : G2 N.K N.ca r' g') (ha : SPl N ta fa) (hb : SPl N tb fb) (hc : SPl N tc fc) : SE N (tChain r r' ta tb tc) (mChain g g' fa fb fc) := by
  intro B ρ σ H Q I hp
  unfold tChain
  refine Post.next back_E ha I hp fun v p ρ1 B1 H1 I1 s1 r1 q => ?_
  refine Post.next back_E hb I1 q fun w p' ρ2 B2 H2 I2 s2 r2 q => ?_
  obtain ⟨d, ed, q⟩ := q.opt
  obtain ⟨d', ee, q⟩ := q.opt
  obtain ⟨z, eg, q⟩ := q.opt
  obtain ⟨k, ek, q⟩ := q.opt
  refine hr H2 B2 v w d d' z _ I2.tr (bor_of I2 (r1.1.up s2 I1) ed) (bor_of I2 r2.1 ee) eg fun v' H' sH rep => ⟨k, rep_bl rep ek, ?_⟩
  have I3 := I2.grow sH
  have s3 : Stp N σ B2 ρ2 H2 B2 ρ2 H' := stp_grow sH
  by_cases hk : k = true
  · simp only [if_pos hk] at q ⊢
    have q' : Post rE N σ B2 ρ2 H' ((fc ρ2).bind fun w => (Rs.of (plD w.2 p')).bind fun e2 => (Rs.of (plD w.2 w.1)).bind fun u => (Rs.of (g' e2 u)).bind fun z => .ok (z, w.2)) Q := by
      revert q
      generalize ((fc ρ2).bind fun w => (Rs.of (plD w.2 p')).bind fun e2 => (Rs.of (plD w.2 w.1)).bind fun u => (Rs.of (g' e2 u)).bind fun z => Rs.ok (z, w.2)) = rr
      intro q
      cases rr with
      | no => exact q
      | er c fs => exact q
      | ok x => exact fun y B' H'' I' s' r' => q y B' H'' I' (s3.tr s') r'
    refine Post.next back_E hc I3 q' fun u p'' ρ4 B4 H4 I4 s4 r4 q => ?_
    obtain ⟨e2, ee2, q⟩ := q.opt
    obtain ⟨u', eu, q⟩ := q.opt
    obtain ⟨z', eg', q⟩ := q.opt
    exact hr' H4 B4 w u e2 u' z' Q I4.tr (bor_of I4 (r2.1.up (s3.tr s4) I2) ee2) (bor_of I4 r4.1 eu) eg' fun v' H'' sH rep => q.ok (I4.grow sH) (stp_grow sH) rep
  · simp only [if_neg hk] at q ⊢
    exact q.ok I3 s3 (.bl _)
end

/-! ### M8. what is changed in place -/
def Sl.mut : Sl → Option D
  | .o d | .i d => some d
  | _ => none
def Sl.put : Sl → D → Sl
  | .o _, d => .o d
  | .i _, d => .i d
  | s, _ => s
theorem mut_cases {x : Sl} {d : D} (h : x.mut = some d) : x = .o d ∨ x = .i d := by
  cases x <;> first | (cases h; done) | (cases h; exact .inl rfl) | (cases h; exact .inr rfl)
def slotMut (ρ : Env') (i : Nat) : Option D := (ρ[i]?).bind Sl.mut
section
variable {N : Cn} {B B' B1 B2 : Addr → Bool} {ρ ρ' ρ1 ρ2 : Env'} {σ σ' : L2.St} {H H' H1 H2 : Hp}
theorem slotMut_get {i : Nat} {d : D} (h : slotMut ρ i = some d) : ∃ x, ρ[i]? = some x ∧ x.mut = some d := by
  unfold slotMut at h
  cases e : ρ[i]? with
  | none => rw [e] at h; cases h
  | some x => rw [e] at h; exact ⟨x, rfl, h⟩
/-- the object in a slot that may be changed -/
theorem Iv.mutAt (I : Iv N B ρ σ H) {i : Nat} {d : D} (h : slotMut ρ i = some d) : ∃ a o, σ[i]? = some (some (.ref a)) ∧ B a = true ∧ H a = some o ∧ Ct N.K N.ca (mask H B) o d ∧ (ρ[i]? = some (.o d) ∧ N.B0 a = false ∧ N.H0 a = none ∨ ρ[i]? = some (.i d) ∧ N.C i = some a) := by
  obtain ⟨x, e, hm⟩ := slotMut_get h
  have hs := I.slot e
  rcases mut_cases hm with rfl | rfl
  · obtain ⟨a, o, hw, h1, h2, h3, h4, c⟩ := hs
    exact ⟨a, o, of_bind hw, h1, h4, c, .inl ⟨e, h2, h3⟩⟩
  · obtain ⟨a, o, hw, h1, h2, c⟩ := hs
    exact ⟨a, o, of_bind hw, I.bb a (I.cb i a h1), h2, c, .inr ⟨e, h1⟩⟩
/-- two slots that may be changed hold two objects -/
theorem Iv.apart (I : Iv N B ρ σ H) {i j : Nat} {d e : D} {a : Addr} (ne : i ≠ j) (h : slotMut ρ i = some d) (h' : slotMut ρ j = some e) (hi : σ[i]? = some (some (.ref a))) (hj : σ[j]? = some (some (.ref a))) : False := by
  obtain ⟨b, _, e1, _, _, _, k1⟩ := I.mutAt h
  obtain ⟨b', _, e2, _, _, _, k2⟩ := I.mutAt h'
  rw [hi] at e1; cases e1
  rw [hj] at e2; cases e2
  rcases k1 with ⟨r1, n1, _⟩ | ⟨r1, c1⟩ <;> rcases k2 with ⟨r2, n2, _⟩ | ⟨r2, c2⟩
  · exact I.ds i j _ _ a ne r1 r2 hi hj
  · rw [I.cb j a c2] at n1; cases n1
  · rw [I.cb i a c1] at n2; cases n2
  · exact ne (I.ci i j a c1 c2)
theorem mask_upd {a : Addr} {o : HO} (h : B a = true) : mask (upd H a o) B = mask H B := by
  funext b
  unfold mask
  by_cases hb : B b = true
  · rw [if_pos hb, if_pos hb]
  · rw [if_neg hb, if_neg hb, upd_ne (fun z => hb (by rw [z]; exact h))]
theorem Iv.setCt (I : Iv N B ρ σ H) {i : Nat} {a : Addr} {x : Sl} {o o' : HO} {d d' : D} (e : ρ[i]? = some x) (hm : x.mut = some d) (hσ : σ[i]? = some (some (.ref a))) (ho : H a = some o) (c : Ct N.K N.ca (mask H B) o' d') :
    Iv N B (ρ.set i (x.put d')) σ (upd H a o') ∧ Stp N σ B ρ H B (ρ.set i (x.put d')) (upd H a o') := by
  have hsm : slotMut ρ i = some d := by unfold slotMut; rw [e]; exact hm
  obtain ⟨a', o1, e1, hB, _, _, k⟩ := I.mutAt hsm
  rw [hσ] at e1; cases e1
  have hlen : i < ρ.length := (List.getElem?_eq_some_iff.mp e).1
  have hput : ∀ {y : Sl} {j : Nat}, (ρ.set i (x.put d'))[j]? = some y → (j = i ∧ y = x.put d') ∨ (j ≠ i ∧ ρ[j]? = some y) := fun {y j} h => by
    by_cases q : i = j
    · subst q; rw [List.getElem?_set_self hlen] at h; cases h; exact .inl ⟨rfl, rfl⟩
    · rw [List.getElem?_set_ne q] at h; exact .inr ⟨fun z => q z.symm, h⟩
  have tag : (∃ z, x = .o z ∧ x.put d' = .o d') ∨ (∃ z, x = .i z ∧ x.put d' = .i d') := by
    rcases mut_cases hm with rfl | rfl
    · exact .inl ⟨_, rfl, rfl⟩
    · exact .inr ⟨_, rfl, rfl⟩
  have hm' : mask (upd H a o') B = mask H B := mask_upd hB
  have nf : ∀ b, (∀ j, N.C j ≠ some b) → N.H0 b ≠ none → b ≠ a := fun b hc h0 z => by
    subst z
    rcases k with ⟨_, _, k3⟩ | ⟨_, k2⟩
    · exact h0 k3
    · exact hc i k2
  refine ⟨⟨fun b u hc hb => ?_, I.cb, I.ci, fun j b hb => ?_, I.bb, I.bh, fun b hb => ?_, by rw [List.length_set]; exact I.ln, fun j y hy => ?_, fun j l y z b ne hj hl s1 s2 => ?_⟩, ?_, fun p u h1 h2 hc hp => ?_⟩
  · rw [upd_ne (nf b hc (by rw [hb]; intro z; cases z))]; exact I.fr b u hc hb
  · obtain ⟨z, hz⟩ := I.ck j b hb
    by_cases q : i = j
    · subst q
      rw [e] at hz; cases hz
      exact ⟨d', by rw [List.getElem?_set_self hlen]; rfl⟩
    · exact ⟨z, by rw [List.getElem?_set_ne q]; exact hz⟩
  · by_cases q : b = a
    · subst q; rw [upd_same]; intro z; cases z
    · rw [upd_ne q]; exact I.tr b hb
  · rcases hput hy with ⟨rfl, rfl⟩ | ⟨ne, hr⟩
    · rcases tag with ⟨z, rfl, ep⟩ | ⟨z, rfl, ep⟩ <;> rw [ep]
      · obtain ⟨b, ob, hw, g1, g2, g3, g4, gc⟩ := I.slot e
        rw [bind_id hσ] at hw; cases hw
        exact ⟨a, o', bind_id hσ, g1, g2, g3, upd_same, by rw [hm']; exact c⟩
      · obtain ⟨b, ob, hw, g1, g2, gc⟩ := I.slot e
        rw [bind_id hσ] at hw; cases hw
        exact ⟨a, o', bind_id hσ, g1, upd_same, by rw [hm']; exact c⟩
    · have hs := I.slot hr
      cases y with
      | e => trivial
      | v w => obtain ⟨v, q, r⟩ := hs; exact ⟨v, q, by rw [hm']; exact r⟩
      | o w =>
        obtain ⟨b, ob, hw, g1, g2, g3, g4, gc⟩ := hs
        have nb : b ≠ a := fun z => I.apart (fun q => ne q.symm) hsm (show slotMut ρ j = some w by unfold slotMut; rw [hr]; rfl) hσ (by rw [← z]; exact of_bind hw)
        exact ⟨b, ob, hw, g1, g2, g3, by rw [upd_ne nb]; exact g4, by rw [hm']; exact gc⟩
      | i w =>
        obtain ⟨b, ob, hw, g1, g2, gc⟩ := hs
        have nb : b ≠ a := fun z => I.apart (fun q => ne q.symm) hsm (show slotMut ρ j = some w by unfold slotMut; rw [hr]; rfl) hσ (by rw [← z]; exact of_bind hw)
        exact ⟨b, ob, hw, g1, by rw [upd_ne nb]; exact g2, by rw [hm']; exact gc⟩
      | b w =>
        obtain ⟨v, q, r | ⟨b, ob, g0, g1, g2, g3, gc⟩⟩ := hs
        · exact ⟨v, q, .inl (by rw [hm']; exact r)⟩
        · have nb : b ≠ a := fun z => by
            subst z
            rcases k with ⟨_, k2, _⟩ | ⟨_, k2⟩
            · rw [k2] at g1; cases g1
            · exact g2 i k2
          exact ⟨v, q, .inr ⟨b, ob, g0, g1, g2, by rw [upd_ne nb]; exact g3, by rw [hm']; exact gc⟩⟩
  · have back : ∀ {l : Nat} {y : D}, (ρ.set i (x.put d'))[l]? = some (Sl.o y) → ∃ w, ρ[l]? = some (Sl.o w) := fun {l y} h => by
      rcases hput h with ⟨rfl, hx⟩ | ⟨_, hr⟩
      · rcases tag with ⟨z, rfl, ep⟩ | ⟨z, rfl, ep⟩
        · exact ⟨z, e⟩
        · rw [ep] at hx; cases hx
      · exact ⟨y, hr⟩
    obtain ⟨w1, q1⟩ := back hj
    obtain ⟨w2, q2⟩ := back hl
    exact I.ds j l w1 w2 b ne q1 q2 s1 s2
  · rw [hm']; exact SameH.rfl
  · have np : p ≠ a := fun z => by
      subst z
      rcases k with ⟨k1, _⟩ | ⟨_, k2⟩
      · exact h2 i d k1 hσ
      · exact hc i k2
    refine ⟨by rw [upd_ne np]; exact hp, h1, fun j w hj => ?_⟩
    rcases hput hj with ⟨rfl, hx⟩ | ⟨_, hr⟩
    · rcases tag with ⟨z, rfl, ep⟩ | ⟨z, rfl, ep⟩
      · exact h2 j z e
      · rw [ep] at hx; cases hx
    · exact h2 j w hr
end
/-- a method that changes the object in slot i -/
def mMut (ok : D → Bool) (g : D → List D → Option (D × D)) (i : Nat) (fs : MM (List Pl)) : MM D := fun ρ => (Rs.of (slotMut ρ i)).bind fun c0 => if ok c0 = true then (fs ρ).bind fun x => (Rs.of (rdA x.2 x.1)).bind fun ds =>
  (Rs.of (slotMut x.2 i)).bind fun c => (Rs.of (g c ds)).bind fun z => (Rs.of (x.2[i]?)).bind fun s => .ok (z.1, x.2.set i (s.put z.2)) else .no
/-- .. the arguments are values -/
def mMutV (ok : D → Bool) (g : D → List D → Option (D × D)) (i : Nat) (fs : MM (List Pl)) : MM D := fun ρ => (Rs.of (slotMut ρ i)).bind fun c0 => if ok c0 = true then (fs ρ).bind fun x => (Rs.of (vals x.1)).bind fun ds =>
  (Rs.of (slotMut x.2 i)).bind fun c => (Rs.of (g c ds)).bind fun z => (Rs.of (x.2[i]?)).bind fun s => .ok (z.1, x.2.set i (s.put z.2)) else .no
def MR (K : PySem.W.Frag) (ca : Str → Addr) (r : V → List V → Hp → VK → Prop) (g : D → List D → Option (D × D)) : Prop :=
  ∀ H B a o c vs ds z c' Q, Live B H → H a = some o → Ct K ca (mask H B) o c → BorA K ca H B vs ds → g c ds = some (z, c') → (∀ o' v', Ct K ca (mask H B) o' c' → Rep K ca (mask H B) v' z → Q v' (upd H a o')) → r (.ref a) vs H Q
def MRV (K : PySem.W.Frag) (ca : Str → Addr) (r : V → List V → Hp → VK → Prop) (g : D → List D → Option (D × D)) : Prop :=
  ∀ H B a o c vs ds z c' Q, Live B H → H a = some o → Ct K ca (mask H B) o c → RepA K ca (mask H B) vs ds → g c ds = some (z, c') → (∀ o' v', Ct K ca (mask H B) o' c' → Rep K ca (mask H B) v' z → Q v' (upd H a o')) → r (.ref a) vs H Q
def isLst : D → Bool
  | .lst _ => true
  | _ => false
def isDct : D → Bool
  | .dk _ | .dt _ => true
  | _ => false
section
variable {N : Cn} {B B' B1 B2 : Addr → Bool} {ρ ρ' ρ1 ρ2 : Env'} {σ σ' : L2.St} {H H' H1 H2 : Hp} {t : TA} {fs : MM (List Pl)} {T : String} {r : V → List V → Hp → VK → Prop} {g : D → List D → Option (D × D)} {ok : D → Bool} {i : Nat}
theorem Post.ofOk {γ δ : Type} {R' : Rel γ δ} {c : Bool} {k : Rs (γ × Env')} {Q : δ → Hp → Prop} (h : Post R' N σ B ρ H (if c = true then k else .no) Q) : c = true ∧ Post R' N σ B ρ H k Q := Post.iff h
theorem tyV_list {K : PySem.W.Frag} {ca : Str → Addr} {a : Addr} {o : HO} {d : D} {H H1 : Hp} (c : Ct K ca H1 o d) (e : H a = some o) (h : isLst d = true) : tyV K "list" (.ref a) H := by
  cases d <;> first | cases h | skip
  cases o <;> first | exact c.elim | exact .inl ⟨rfl, _, SqL.of e⟩
theorem tyV_dict {K : PySem.W.Frag} {ca : Str → Addr} {a : Addr} {o : HO} {d : D} {H H1 : Hp} (c : Ct K ca H1 o d) (e : H a = some o) (h : isDct d = true) : tyV K "dict" (.ref a) H := by
  cases d <;> first | cases h | skip
  · cases o <;> first | exact c.elim | exact .inr (.inr (.inl ⟨rfl, .inl ⟨_, e⟩⟩))
  · cases o <;> first | exact c.elim | exact .inr (.inr (.inl ⟨rfl, .inr ⟨_, e⟩⟩))
theorem se_mut (hr : MR N.K N.ca r g) (hty : ∀ {a o d} {H H1 : Hp}, Ct N.K N.ca H1 o d → H a = some o → ok d = true → tyV N.K T (.ref a) H) (ha : SA N t fs) : SE N (tBM N.K T r (tVar i) t) (mMut ok g i fs) := by
  intro B ρ σ H Q I hp
  obtain ⟨c0, e0, q⟩ := hp.opt
  obtain ⟨ho0, q⟩ := q.ofOk
  obtain ⟨a, o, hσ, hB, hH, hc, k⟩ := I.mutAt e0
  refine ⟨.ref a, hσ, hty hc hH ho0, ?_⟩
  refine Post.next back_E ha I q fun vs ps ρ1 B1 H1 I1 s1 r1 q => ?_
  obtain ⟨ds, ed, q⟩ := q.opt
  obtain ⟨c, ec, q⟩ := q.opt
  obtain ⟨⟨z, c'⟩, eg, q⟩ := q.opt
  obtain ⟨s, es, q⟩ := q.opt
  obtain ⟨a', o1, hσ', hB1, hH1, hc1, k1⟩ := I1.mutAt ec
  rw [hσ] at hσ'; cases hσ'
  refine hr H1 B1 a o1 c vs ds z c' Q I1.tr hH1 hc1 (borA_of I1 r1.1 ed) eg fun o' v' ct rep => ?_
  have hm : s.mut = some c := by
    obtain ⟨x, ex, hx⟩ := slotMut_get ec
    rw [ex] at es; cases es; exact hx
  obtain ⟨I2, s2⟩ := I1.setCt es hm hσ hH1 ct
  exact q.ok I2 s2 (by show Rep _ _ (mask (upd H1 a o') B1) v' z; rw [mask_upd hB1]; exact rep)
theorem se_mutV (hr : MRV N.K N.ca r g) (hty : ∀ {a o d} {H H1 : Hp}, Ct N.K N.ca H1 o d → H a = some o → ok d = true → tyV N.K T (.ref a) H) (ha : SA N t fs) : SE N (tBM N.K T r (tVar i) t) (mMutV ok g i fs) := by
  intro B ρ σ H Q I hp
  obtain ⟨c0, e0, q⟩ := hp.opt
  obtain ⟨ho0, q⟩ := q.ofOk
  obtain ⟨a, o, hσ, hB, hH, hc, k⟩ := I.mutAt e0
  refine ⟨.ref a, hσ, hty hc hH ho0, ?_⟩
  refine Post.next back_E ha I q fun vs ps ρ1 B1 H1 I1 s1 r1 q => ?_
  obtain ⟨ds, ed, q⟩ := q.opt
  obtain ⟨c, ec, q⟩ := q.opt
  obtain ⟨⟨z, c'⟩, eg, q⟩ := q.opt
  obtain ⟨s, es, q⟩ := q.opt
  obtain ⟨a', o1, hσ', hB1, hH1, hc1, k1⟩ := I1.mutAt ec
  rw [hσ] at hσ'; cases hσ'
  refine hr H1 B1 a o1 c vs ds z c' Q I1.tr hH1 hc1 (vals_rep r1.1 ed) eg fun o' v' ct rep => ?_
  have hm : s.mut = some c := by
    obtain ⟨x, ex, hx⟩ := slotMut_get ec
    rw [ex] at es; cases es; exact hx
  obtain ⟨I2, s2⟩ := I1.setCt es hm hσ hH1 ct
  exact q.ok I2 s2 (by show Rep _ _ (mask (upd H1 a o') B1) v' z; rw [mask_upd hB1]; exact rep)
theorem se_mut0 (hr : MRV N.K N.ca r g) (hty : ∀ {a o d} {H H1 : Hp}, Ct N.K N.ca H1 o d → H a = some o → ok d = true → tyV N.K T (.ref a) H) : SE N (tBM0 N.K T r (tVar i)) (mMutV ok g i mNil) := se_mutV hr hty sa_nil
end
def gAppend : D → List D → Option (D × D)
  | .lst xs, [d] => if xs.length < sizeLine then some (.non, .lst (xs ++ [d])) else none
  | _, _ => none
def gExtend : D → List D → Option (D × D)
  | .lst xs, [.lst ys] => if xs.length + ys.length ≤ sizeLine then some (.non, .lst (xs ++ ys)) else none
  | _, _ => none
def gPopAt : D → List D → Option (D × D)
  | .lst xs, [.int i] => if -(2 ^ 63) ≤ i ∧ i < 2 ^ 63 then (seqIndex? i xs.length).bind fun k => (xs[k]?).map fun d => (d, .lst (xs.eraseIdx k)) else none
  | _, _ => none
def gInsert : D → List D → Option (D × D)
  | .lst xs, [.int i, d] => if xs.length < sizeLine ∧ 0 ≤ i ∧ i < 2 ^ 63 then some (.non, .lst (xs.take i.toNat ++ [d] ++ xs.drop i.toNat)) else none
  | _, _ => none
section
variable {K : PySem.W.Frag} {ca : Str → Addr}
theorem ct_lst {H : Hp} {o : HO} {ds : List D} (c : Ct K ca H o (.lst ds)) : ∃ xs, o = .lst xs ∧ RepA K ca H xs ds := by
  cases o <;> first | exact c.elim | exact ⟨_, rfl, c⟩
theorem rep1 {H : Hp} {vs : List V} {d : D} (r : RepA K ca H vs [d]) : ∃ v, vs = [v] ∧ Rep K ca H v d := by
  cases r with
  | cons h t => cases t; exact ⟨_, rfl, h⟩
theorem rep2 {H : Hp} {vs : List V} {d e : D} (r : RepA K ca H vs [d, e]) : ∃ v w, vs = [v, w] ∧ Rep K ca H v d ∧ Rep K ca H w e := by
  cases r with
  | cons h t => obtain ⟨w, rfl, h2⟩ := rep1 t; exact ⟨_, w, rfl, h, h2⟩
theorem g_append : MRV K ca rAppend gAppend := by
  intro H B a o c vs ds z c' Q lv hH hc hr hg q
  unfold gAppend at hg
  split at hg
  · obtain ⟨hl, e⟩ := ifo hg
    cases e
    obtain ⟨xs, rfl, rx⟩ := ct_lst hc
    obtain ⟨v, rfl, rv⟩ := rep1 hr
    exact ⟨a, xs, v, rfl, rfl, hH, by rw [rx.len]; exact hl, q _ _ (rx.app (.cons rv .nil)) .non⟩
  · cases hg
theorem g_extend : MR K ca rExtend gExtend := by
  intro H B a o c vs ds z c' Q lv hH hc hr hg q
  unfold gExtend at hg
  split at hg
  · obtain ⟨hl, e⟩ := ifo hg
    cases e
    obtain ⟨xs, rfl, rx⟩ := ct_lst hc
    obtain ⟨v, rfl, rv⟩ := bA1 hr
    obtain ⟨b, ys, rfl, hb, ry⟩ := rv.lst
    exact ⟨a, b, xs, ys, rfl, rfl, hH, hb, by rw [rx.len, ry.len]; exact hl, q _ _ (rx.app ry) .non⟩
  · cases hg
theorem g_popAt : MRV K ca rPopAt gPopAt := by
  intro H B a o c vs ds z c' Q lv hH hc hr hg q
  unfold gPopAt at hg
  split at hg
  · rename_i xs i
    by_cases hi : -(2 ^ 63) ≤ i ∧ i < 2 ^ 63
    · rw [if_pos hi] at hg
      obtain ⟨ys, rfl, rx⟩ := ct_lst hc
      obtain ⟨v, rfl, rv⟩ := rep1 hr
      cases rv
      cases hk : seqIndex? i xs.length with
      | none => rw [hk] at hg; cases hg
      | some k =>
        rw [hk] at hg
        change (xs[k]?).map (fun d => (d, D.lst (xs.eraseIdx k))) = some (z, c') at hg
        rw [Option.map_eq_some_iff] at hg
        obtain ⟨d, ed, e⟩ := hg
        cases e
        obtain ⟨y, ey, ry⟩ := rx.get ed
        refine ⟨a, ys, i, k, y, rfl, rfl, hH, hi.1, hi.2, by rw [rx.len]; exact hk, ey, q _ _ ?_ ry⟩
        show RepA K ca _ (ys.eraseIdx k) (xs.eraseIdx k)
        rw [List.eraseIdx_eq_take_drop_succ, List.eraseIdx_eq_take_drop_succ]
        exact (rx.take _).app (rx.drop _)
    · rw [if_neg hi] at hg; cases hg
  · cases hg
theorem g_insert : MRV K ca (fun x vs H Q => ∃ l xs i y, x = V.ref l ∧ vs = [V.int i, y] ∧ H l = some (HO.lst xs) ∧ xs.length < sizeLine ∧ 0 ≤ i ∧ i < 2 ^ 63 ∧ Q V.non (upd H l (HO.lst (List.take i.toNat xs ++ [y] ++ List.drop i.toNat xs)))) gInsert := by
  intro H B a o c vs ds z c' Q lv hH hc hr hg q
  unfold gInsert at hg
  split at hg
  · obtain ⟨⟨h1, h2, h3⟩, e⟩ := ifo hg
    cases e
    obtain ⟨xs, rfl, rx⟩ := ct_lst hc
    obtain ⟨v, w, rfl, rv, rw'⟩ := rep2 hr
    cases rv
    exact ⟨a, xs, _, w, rfl, rfl, hH, by rw [rx.len]; exact h1, h2, h3, q _ _ (((rx.take _).app (.cons rw' .nil)).app (rx.drop _)) .non⟩
  · cases hg
end

/-! ### M9. statements -/
inductive Out where
  | no | nx (ρ : Env') | rt (nw : Bool) (d : D) (ρ : Env') | bk (ρ : Env') | ct (ρ : Env') | er (c : Str) (fs : List (Str × D))
abbrev MS := Env' → Out
def PostS (N : Cn) (B : Addr → Bool) (H : Hp) (W : Ends) (out : Out) : Prop :=
  match out with
  | .no => False
  | .er c fs => XOk N c fs
  | .nx ρ' => ∀ σ' B' H', Iv N B' ρ' σ' H' → SameH (mask H B) (mask H' B') → W.nx σ' H'
  | .bk ρ' => ∀ σ' B' H', Iv N B' ρ' σ' H' → SameH (mask H B) (mask H' B') → W.bk σ' H'
  | .ct ρ' => ∀ σ' B' H', Iv N B' ρ' σ' H' → SameH (mask H B) (mask H' B') → W.ct σ' H'
  | .rt false d ρ' => ∀ v σ' B' H', Iv N B' ρ' σ' H' → SameH (mask H B) (mask H' B') → Rep N.K N.ca (mask H' B') v d → W.rt v H'
  | .rt true d ρ' => ∀ v σ' B' H', Iv N B' ρ' σ' H' → SameH (mask H B) (mask H' B') → New N σ' B' ρ' H' v d → W.rt v H'
def SS (N : Cn) (t : TS) (m : MS) : Prop := ∀ B ρ σ H W, Iv N B ρ σ H → PostS N B H W (m ρ) → t W σ H
def Rs.out {α : Type} (r : Rs α) (f : α → Out) [Tg f] : Out := match r with
  | .no => .no
  | .ok a => f a
  | .er c fs => .er c fs
theorem out_ok {α : Type} (a : α) (f : α → Out) {i : Tg f} : @Rs.out α (.ok a) f i = f a := Eq.trans rfl rfl
theorem out_no {α : Type} (f : α → Out) {i : Tg f} : @Rs.out α .no f i = .no := Eq.trans rfl rfl
theorem out_er {α : Type} (c : Str) (fs : List (Str × D)) (f : α → Out) {i : Tg f} : @Rs.out α (.er c fs) f i = .er c fs := Eq.trans rfl rfl
def Out.seq (o : Out) (m : MS) [Tg m] : Out := match o with
  | .no => .no
  | .nx ρ => m ρ
  | .rt n d ρ => .rt n d ρ
  | .bk ρ => .bk ρ
  | .ct ρ => .ct ρ
  | .er c fs => .er c fs
def sNx : MS := fun ρ => .nx ρ
def sSeq (m1 m2 : MS) : MS := fun ρ => (m1 ρ).seq m2
def sDrop (f : MM D) : MS := fun ρ => (f ρ).out fun x => .nx x.2
def sRet (f : MM D) : MS := fun ρ => (f ρ).out fun x => .rt false x.1 x.2
def sRetN (f : MM D) : MS := fun ρ => (f ρ).out fun x => .rt true x.1 x.2
def sRet0 : MS := fun ρ => .rt false .non ρ
def sBk : MS := fun ρ => .bk ρ
def sCt : MS := fun ρ => .ct ρ
def sIf (c : MM Bool) (m1 m2 : MS) : MS := fun ρ => (c ρ).out fun x => if x.1 = true then m1 x.2 else m2 x.2
def isI : Sl → Bool
  | .i _ => true
  | _ => false
/-- a slot is given a value, an object of its own -/
def putSl (ρ : Env') (i : Nat) (s : Sl) : Out := match ρ[i]? with
  | some x => if isI x = true then .no else .nx (ρ.set i s)
  | none => .no
def sSet (i : Nat) (f : MM D) : MS := fun ρ => (f ρ).out fun x => putSl x.2 i (.v x.1)
def sSetN (i : Nat) (f : MM D) : MS := fun ρ => (f ρ).out fun x => putSl x.2 i (.o x.1)
section
variable {N : Cn} {B B' B1 B2 : Addr → Bool} {ρ ρ' ρ1 ρ2 : Env'} {σ σ' : L2.St} {H H' H1 H2 : Hp} {te : TE} {f : MM D} {t u : TS} {m m' : MS} {tc : TT} {c : MM Bool} {W W' : Ends} {i : Nat}
theorem PostS.from {out : Out} (s : SameH (mask H B) (mask H1 B1)) (h : PostS N B H W out) : PostS N B1 H1 W out := by
  cases out with
  | no => exact h
  | er c fs => exact h
  | nx ρ' => exact fun σ' B' H' I s' => h σ' B' H' I (s.tr s')
  | bk ρ' => exact fun σ' B' H' I s' => h σ' B' H' I (s.tr s')
  | ct ρ' => exact fun σ' B' H' I s' => h σ' B' H' I (s.tr s')
  | rt nw d ρ' =>
    cases nw with
    | false => exact fun v σ' B' H' I s' => h v σ' B' H' I (s.tr s')
    | true => exact fun v σ' B' H' I s' => h v σ' B' H' I (s.tr s')
/-- an expression within a statement -/
theorem Post.out {α β : Type} {R : Rel α β} {t : L2.St → Hp → (β → Hp → Prop) → Prop} {g : MM α} {k : α × Env' → Out} {Q1 : β → Hp → Prop} (ha : Jd R N t g) (I : Iv N B ρ σ H) (h : PostS N B H W ((g ρ).out k))
    (hk : ∀ y x ρ1 B1 H1, Iv N B1 ρ1 σ H1 → Stp N σ B ρ H B1 ρ1 H1 → R N σ B ρ H B1 ρ1 H1 y x → PostS N B1 H1 W (k (x, ρ1)) → Q1 y H1) : t σ H Q1 := by
  refine ha B ρ σ H Q1 I ?_
  cases e : g ρ with
  | no => rw [e] at h; exact h
  | er c fs => rw [e] at h; exact h
  | ok x =>
    rw [e] at h
    exact fun y B1 H1 I1 s1 r1 => hk y x.1 x.2 B1 H1 I1 s1 r1 (h.from s1.sm)
theorem ss_nx : SS N tNext sNx := fun B ρ σ H W I h => h σ B H I SameH.rfl
theorem ss_seq (h : SS N t m) (h' : SS N u m') : SS N (tSeq t u) (sSeq m m') := by
  intro B ρ σ H W I hp
  refine h B ρ σ H _ I ?_
  unfold sSeq at hp
  cases e : m ρ with
  | no => rw [e] at hp; exact hp
  | er c fs => rw [e] at hp; exact hp
  | nx ρ' =>
    rw [e] at hp
    exact fun σ' B' H' I' s' => h' B' ρ' σ' H' W I' (PostS.from s' hp)
  | bk ρ' => rw [e] at hp; exact hp
  | ct ρ' => rw [e] at hp; exact hp
  | rt nw d ρ' => rw [e] at hp; cases nw <;> exact hp
theorem ss_cut (h : SS N t m) (h' : SS N u m') : SS N (C8.tCut t u) (sSeq m m') := by
  intro B ρ σ H W I hp
  exact ⟨fun σ' H' => u W σ' H', ss_seq h h' B ρ σ H W I hp, fun _ _ q => q⟩
theorem ss_drop (h : SE N te f) : SS N (tDrop te) (sDrop f) := by
  intro B ρ σ H W I hp
  exact Post.out (k := fun x => .nx x.2) h I hp fun v d ρ1 B1 H1 I1 s1 r1 q => q σ B1 H1 I1 SameH.rfl
theorem ss_ret (h : SE N te f) : SS N (tRet te) (sRet f) := by
  intro B ρ σ H W I hp
  exact Post.out (k := fun x => .rt false x.1 x.2) h I hp fun v d ρ1 B1 H1 I1 s1 r1 q => q v σ B1 H1 I1 SameH.rfl r1
theorem ss_retN (h : SN N te f) : SS N (tRet te) (sRetN f) := by
  intro B ρ σ H W I hp
  exact Post.out (k := fun x => .rt true x.1 x.2) h I hp fun v d ρ1 B1 H1 I1 s1 r1 q => q v σ B1 H1 I1 SameH.rfl r1.1
theorem ss_ret0 : SS N tRetN sRet0 := fun B ρ σ H W I h => h .non σ B H I SameH.rfl .non
theorem ss_bk : SS N tBreak sBk := fun B ρ σ H W I h => h σ B H I SameH.rfl
theorem ss_ct : SS N tCont sCt := fun B ρ σ H W I h => h σ B H I SameH.rfl
theorem ss_if (hc : STt N tc c) (h : SS N t m) (h' : SS N u m') : SS N (tIfS tc t u) (sIf c m m') := by
  intro B ρ σ H W I hp
  refine Post.out (k := fun x => if x.1 = true then m x.2 else m' x.2) hc I hp fun b b' ρ1 B1 H1 I1 s1 r1 q => ?_
  cases (show b = b' from r1)
  by_cases hb : b = true
  · simp only [if_pos hb] at q ⊢
    exact h B1 ρ1 σ H1 W I1 q
  · simp only [if_neg hb] at q ⊢
    exact h' B1 ρ1 σ H1 W I1 q
/-- the slots' values change where nothing is known of them -/
theorem Iv.sig (I : Iv N B ρ σ H) (hl : σ'.length = σ.length) (h : ∀ (j : Nat) (x : Sl), ρ[j]? = some x → x ≠ .e → σ'[j]? = σ[j]?) : Iv N B ρ σ' H where
  fr := I.fr
  cb := I.cb
  ci := I.ci
  ck := I.ck
  bb := I.bb
  bh := I.bh
  tr := I.tr
  ln := by rw [hl]; exact I.ln
  sl := fun j x e => by
    cases x with
    | e => trivial
    | v d => rw [h j _ e (fun z => nomatch z)]; exact I.sl j _ e
    | o d => rw [h j _ e (fun z => nomatch z)]; exact I.sl j _ e
    | i d => rw [h j _ e (fun z => nomatch z)]; exact I.sl j _ e
    | b d => rw [h j _ e (fun z => nomatch z)]; exact I.sl j _ e
  ds := fun j k x y a ne ej ek sj sk => by
    rw [h j _ ej (fun z => nomatch z)] at sj
    rw [h k _ ek (fun z => nomatch z)] at sk
    exact I.ds j k x y a ne ej ek sj sk
theorem not_isI {x : Sl} (h : ¬ isI x = true) : ∀ d, x ≠ .i d := fun d z => h (by rw [z]; rfl)
/-- a value is stored -/
theorem Iv.store (I : Iv N B ρ σ H) {x : Sl} {v : V} {d : D} (e : ρ[i]? = some x) (hx : ¬ isI x = true) (r : Rep N.K N.ca (mask H B) v d) : Iv N B (ρ.set i (.v d)) (σ.set i (some v)) H := by
  have hlen : i < ρ.length := (List.getElem?_eq_some_iff.mp e).1
  have hs : i < σ.length := by rw [← I.ln]; exact hlen
  have I1 : Iv N B (ρ.set i .e) σ H := I.put0 e (not_isI hx) (fun _ z => nomatch z) trivial
  have I2 : Iv N B (ρ.set i .e) (σ.set i (some v)) H := I1.sig (List.length_set ..) fun j y ej ne => by
    by_cases q : i = j
    · subst q; rw [List.getElem?_set_self hlen] at ej; cases ej; exact absurd rfl ne
    · rw [List.getElem?_set_ne q]
  have I3 : Iv N B ((ρ.set i .e).set i (.v d)) (σ.set i (some v)) H := I2.put0 (List.getElem?_set_self hlen) (fun _ z => nomatch z) (fun _ z => nomatch z) ⟨v, by rw [List.getElem?_set_self hs]; rfl, r⟩
  rw [List.set_set] at I3
  exact I3
/-- an object of one's own is stored -/
theorem Iv.storeN (I : Iv N B ρ σ H) {x : Sl} {v : V} {d : D} (e : ρ[i]? = some x) (hx : ¬ isI x = true) (r : New N σ B ρ H v d) : Iv N B (ρ.set i (.o d)) (σ.set i (some v)) H := by
  have hlen : i < ρ.length := (List.getElem?_eq_some_iff.mp e).1
  have hs : i < σ.length := by rw [← I.ln]; exact hlen
  obtain ⟨p, o, rfl, h0, hb, f, ep, c⟩ := r
  have I1 : Iv N B (ρ.set i .e) σ H := I.put0 e (not_isI hx) (fun _ z => nomatch z) trivial
  have I2 : Iv N B (ρ.set i .e) (σ.set i (some (.ref p))) H := I1.sig (List.length_set ..) fun j y ej ne => by
    by_cases q : i = j
    · subst q; rw [List.getElem?_set_self hlen] at ej; cases ej; exact absurd rfl ne
    · rw [List.getElem?_set_ne q]
  have get : ∀ {j : Nat} {y : Sl}, (ρ.set i (.o d))[j]? = some y → (j = i ∧ y = .o d) ∨ (j ≠ i ∧ (ρ.set i .e)[j]? = some y ∧ ρ[j]? = some y) := fun {j y} h => by
    by_cases q : i = j
    · subst q; rw [List.getElem?_set_self hlen] at h; cases h; exact .inl ⟨rfl, rfl⟩
    · rw [List.getElem?_set_ne q] at h; exact .inr ⟨fun z => q z.symm, by rw [List.getElem?_set_ne q]; exact h, h⟩
  have fp : ∀ j y, j ≠ i → ρ[j]? = some (Sl.o y) → (σ.set i (some (V.ref p)))[j]? = some (some (.ref p)) → False := fun j y ne ej es => by
    rw [List.getElem?_set_ne (fun z => ne z.symm)] at es
    exact f j y ej es
  exact {
    fr := I2.fr, cb := I2.cb, ci := I2.ci, bb := I2.bb, bh := I2.bh, tr := I2.tr
    ck := fun j b hb => by
      obtain ⟨z, hz⟩ := I.ck j b hb
      by_cases q : i = j
      · subst q; rw [e] at hz; cases hz; exact absurd rfl hx
      · exact ⟨z, by rw [List.getElem?_set_ne q]; exact hz⟩
    ln := by rw [List.length_set, List.length_set]; exact I.ln
    sl := fun j y hy => by
      rcases get hy with ⟨rfl, rfl⟩ | ⟨ne, h1, _⟩
      · exact ⟨p, o, by rw [List.getElem?_set_self hs]; rfl, hb, I.b0 h0, h0, ep, c⟩
      · exact I2.sl j y h1
    ds := fun j k x' y' a ne hj hk s1 s2 => by
      rcases get hj with ⟨rfl, hx'⟩ | ⟨nj, g1, r1⟩ <;> rcases get hk with ⟨rfl, hy'⟩ | ⟨nk, g2, r2⟩
      · exact ne rfl
      · rw [List.getElem?_set_self hs] at s1; cases s1
        exact fp k _ nk r2 s2
      · rw [List.getElem?_set_self hs] at s2; cases s2
        exact fp j _ nj r1 s1
      · exact I2.ds j k x' y' a ne g1 g2 s1 s2 }
theorem PostS.ofPut {s : Sl} (q : PostS N B H W (putSl ρ i s)) : ∃ x, ρ[i]? = some x ∧ ¬ isI x = true ∧ PostS N B H W (.nx (ρ.set i s)) := by
  unfold putSl at q
  cases e : ρ[i]? with
  | none => rw [e] at q; exact q.elim
  | some x =>
    rw [e] at q
    by_cases hx : isI x = true
    · simp only [if_pos hx] at q; exact q.elim
    · simp only [if_neg hx] at q; exact ⟨x, rfl, hx, q⟩
theorem ss_set (h : SE N te f) : SS N (tAsg te (gName i)) (sSet i f) := by
  intro B ρ σ H W I hp
  refine Post.out (k := fun x => putSl x.2 i (.v x.1)) h I hp fun v d ρ1 B1 H1 I1 s1 r1 q => ?_
  obtain ⟨x, e, hx, q⟩ := q.ofPut
  exact q _ B1 H1 (I1.store e hx r1) SameH.rfl
theorem ss_setN (h : SN N te f) : SS N (tAsg te (gName i)) (sSetN i f) := by
  intro B ρ σ H W I hp
  refine Post.out (k := fun x => putSl x.2 i (.o x.1)) h I hp fun v d ρ1 B1 H1 I1 s1 r1 q => ?_
  obtain ⟨x, e, hx, q⟩ := q.ofPut
  exact q _ B1 H1 (I1.storeN e hx r1.1) SameH.rfl
end
/-! a target of names -/
abbrev MG := D → Env' → Option Env'
abbrev MGs := List D → Env' → Option Env'
/-- ts: the slots that are written -/
def SG (N : Cn) (ts : List Nat) (g : TG) (mg : MG) : Prop := ∀ B ρ σ H v d Q, Iv N B ρ σ H → Rep N.K N.ca (mask H B) v d →
  (∀ ρ', mg d ρ = some ρ' → ∀ σ', Iv N B ρ' σ' H → (∀ j, j ∉ ts → σ'[j]? = σ[j]? ∧ ρ'[j]? = ρ[j]?) → (∀ j d, j ∈ ts → ρ'[j]? ≠ some (Sl.o d)) → σ'.length = σ.length → Q σ' H) → (∃ ρ', mg d ρ = some ρ') → g v σ H Q
def SGs (N : Cn) (ts : List Nat) (g : TGs) (mg : MGs) : Prop := ∀ B ρ σ H vs ds Q, Iv N B ρ σ H → RepA N.K N.ca (mask H B) vs ds →
  (∀ ρ', mg ds ρ = some ρ' → ∀ σ', Iv N B ρ' σ' H → (∀ j, j ∉ ts → σ'[j]? = σ[j]? ∧ ρ'[j]? = ρ[j]?) → (∀ j d, j ∈ ts → ρ'[j]? ≠ some (Sl.o d)) → σ'.length = σ.length → Q σ' H) → (∃ ρ', mg ds ρ = some ρ') → g vs σ H Q
def gNm (i : Nat) : MG := fun d ρ => match ρ[i]? with
  | some x => if isI x = true then none else some (ρ.set i (.v d))
  | none => none
def gNo : MGs := fun ds ρ => match ds with
  | [] => some ρ
  | _ => none
def gCo (g : MG) (gs : MGs) : MGs := fun ds ρ => match ds with
  | d :: ds => (g d ρ).bind fun ρ' => gs ds ρ'
  | _ => none
def tupOf : D → Option (List D)
  | .tup ds | .tpq ds => some ds
  | _ => none
def gTp (n : Nat) (gs : MGs) : MG := fun d ρ => (tupOf d).bind fun ds => if ds.length = n then gs ds ρ else none
def sAsg (f : MM D) (mg : MG) : MS := fun ρ => (f ρ).out fun x => match mg x.1 x.2 with
  | some ρ' => .nx ρ'
  | none => .no
section
variable {N : Cn} {te : TE} {f : MM D} {g : TG} {gs : TGs} {mg : MG} {mgs : MGs} {i n : Nat} {ts us : List Nat}
theorem sg_name : SG N [i] (gName i) (gNm i) := by
  intro B ρ σ H v d Q I r q ⟨ρ', e⟩
  have q := q ρ' e
  unfold gNm at e
  cases ex : ρ[i]? with
  | none => rw [ex] at e; cases e
  | some x =>
    rw [ex] at e
    by_cases hx : isI x = true
    · simp only [if_pos hx] at e; cases e
    · simp only [if_neg hx] at e
      cases e
      refine q _ (I.store ex hx r) (fun j hj => ?_) (fun j d' hj => ?_) (List.length_set ..)
      · have ne : i ≠ j := fun z => hj (by rw [z]; exact List.mem_singleton.mpr rfl)
        exact ⟨List.getElem?_set_ne ne, List.getElem?_set_ne ne⟩
      · have := List.mem_singleton.mp hj
        subst this
        rw [List.getElem?_set_self (List.getElem?_eq_some_iff.mp ex).1]
        intro z; cases z
theorem sgs_nil : SGs N [] gNil gNo := by
  intro B ρ σ H vs ds Q I r q ⟨ρ', e⟩
  cases r with
  | nil => exact ⟨rfl, q ρ rfl σ I (fun _ _ => ⟨rfl, rfl⟩) (fun _ _ h => nomatch h) rfl⟩
  | cons _ _ => cases e
theorem sgs_cons (h : SG N ts g mg) (h' : SGs N us gs mgs) : SGs N (ts ++ us) (gCons g gs) (gCo mg mgs) := by
  intro B ρ σ H vs ds Q I r q ⟨ρ', e⟩
  cases r with
  | nil => cases e
  | @cons v vs d ds r rs =>
    change (mg d ρ).bind (fun ρ' => mgs ds ρ') = some ρ' at e
    rw [Option.bind_eq_some_iff] at e
    obtain ⟨ρ1, e1, e2⟩ := e
    refine ⟨v, vs, rfl, h B ρ σ H v d _ I r (fun ρ2 e3 σ1 I1 k1 o1 l1 => ?_) ⟨ρ1, e1⟩⟩
    rw [e1] at e3; cases e3
    refine h' B ρ1 σ1 H vs ds Q I1 rs (fun ρ3 e4 σ2 I2 k2 o2 l2 => q ρ3 (by show (mg d ρ).bind (fun ρ' => mgs ds ρ') = some ρ3; rw [e1]; exact e4) σ2 I2 (fun j hj => ?_) (fun j d' hj => ?_) (l2.trans l1)) ⟨ρ', e2⟩
    · rw [List.mem_append] at hj
      obtain ⟨a1, b1⟩ := k1 j fun z => hj (.inl z)
      obtain ⟨a2, b2⟩ := k2 j fun z => hj (.inr z)
      exact ⟨a2.trans a1, b2.trans b1⟩
    · by_cases hu : j ∈ us
      · exact o2 j d' hu
      · rw [(k2 j hu).2]
        exact o1 j d' ((List.mem_append.mp hj).resolve_right hu)
theorem sg_tup (h : SGs N ts gs mgs) : SG N ts (gTup N.K n gs) (gTp n mgs) := by
  intro B ρ σ H v d Q I r q ⟨ρ', e⟩
  have key : ∃ ds a xs, tupOf d = some ds ∧ v = .ref a ∧ SqT N.K H a xs ∧ RepA N.K N.ca (mask H B) xs ds := by
    unfold gTp at e
    cases d <;> first | (cases e; done) | skip
    · cases r with
      | tup h r => exact ⟨_, _, _, rfl, rfl, SqT.of (mask_le _ _ h), r⟩
    · cases r with
      | tpq h r => exact ⟨_, _, _, rfl, rfl, sqT_up mask_le h, r⟩
  obtain ⟨ds, a, xs, ed, rfl, hx, rx⟩ := key
  have e' : (if ds.length = n then mgs ds ρ else none) = some ρ' := by
    unfold gTp at e; rw [ed] at e; exact e
  by_cases hn : ds.length = n
  · rw [if_pos hn] at e'
    refine ⟨a, xs, rfl, hx, by rw [rx.len]; exact hn, h B ρ σ H xs ds Q I rx (fun ρ2 e2 σ2 I2 => q ρ2 ?_ σ2 I2) ⟨ρ', e'⟩⟩
    unfold gTp
    rw [ed]
    show (if ds.length = n then mgs ds ρ else none) = some ρ2
    rw [if_pos hn]; exact e2
  · rw [if_neg hn] at e'; cases e'
theorem ss_asg (h : SE N te f) (hg : SG N ts g mg) : SS N (tAsg te g) (sAsg f mg) := by
  intro B ρ σ H W I hp
  refine Post.out (k := fun x => match mg x.1 x.2 with
    | some ρ' => .nx ρ'
    | none => .no) h I hp fun v d ρ1 B1 H1 I1 s1 r1 q => ?_
  simp only at q
  cases e : mg d ρ1 with
  | none => rw [e] at q; exact q.elim
  | some ρ2 =>
    rw [e] at q
    exact hg B1 ρ1 σ H1 v d _ I1 r1 (fun ρ3 e3 σ3 I3 _ _ _ => by rw [e] at e3; cases e3; exact q σ3 B1 H1 I3 SameH.rfl) ⟨ρ2, e⟩
end
/-! a, b = x, y -/
def plSl : Pl → Option Sl
  | .v d => some (.v d)
  | .n d => some (.o d)
  | .s _ => none
def sPar2 (i j : Nat) (fs : MM (List Pl)) : MS := fun ρ => (fs ρ).out fun x => match x.1 with
  | [p, q] => match plSl p, plSl q with
    | some s, some s' => (putSl x.2 i s).seq fun ρ => putSl ρ j s'
    | _, _ => .no
  | _ => .no
def sPar3 (i j l : Nat) (fs : MM (List Pl)) : MS := fun ρ => (fs ρ).out fun x => match x.1 with
  | [p, q, r] => match plSl p, plSl q, plSl r with
    | some s, some s', some s'' => ((putSl x.2 i s).seq fun ρ => putSl ρ j s').seq fun ρ => putSl ρ l s''
    | _, _, _ => .no
  | _ => .no
section
variable {N : Cn} {B : Addr → Bool} {ρ : Env'} {σ : L2.St} {H : Hp} {t : TA} {fs : MM (List Pl)} {W : Ends} {i j l : Nat}
/-- a place is stored into a slot; what was new stays new -/
theorem Iv.storeP (I : Iv N B ρ σ H) {x : Sl} {v : V} {p : Pl} {s : Sl} (e : ρ[i]? = some x) (hx : ¬ isI x = true) (h : PlOk N σ B ρ H v p) (hs : plSl p = some s) : Iv N B (ρ.set i s) (σ.set i (some v)) H ∧
    ∀ w q, PlOk N σ B ρ H w q → plSl q ≠ none → ((∃ d, p = .n d) → (∃ d, q = .n d) → w ≠ v) → PlOk N (σ.set i (some v)) B (ρ.set i s) H w q := by
  have hlen : i < ρ.length := (List.getElem?_eq_some_iff.mp e).1
  have hsl : i < σ.length := by rw [← I.ln]; exact hlen
  have stays : ∀ w q, PlOk N σ B ρ H w q → plSl q ≠ none → ((∃ d, p = .n d) → (∃ d, q = .n d) → w ≠ v) → PlOk N (σ.set i (some v)) B (ρ.set i s) H w q := fun w q hq hn ne => by
    cases q with
    | v d => exact hq
    | s k => exact absurd rfl hn
    | n d =>
      obtain ⟨a, o, rfl, h0, hb, f, ea, c⟩ := hq
      refine ⟨a, o, rfl, h0, hb, fun k d' ek es => ?_, ea, c⟩
      by_cases q : i = k
      · subst q
        rw [List.getElem?_set_self hlen] at ek
        rw [List.getElem?_set_self hsl] at es
        cases ek; cases es
        cases p with
        | v d2 => cases hs
        | s k2 => cases hs
        | n d2 => exact ne ⟨d2, rfl⟩ ⟨d, rfl⟩ rfl
      · rw [List.getElem?_set_ne q] at ek es
        exact f k d' ek es
  refine ⟨?_, stays⟩
  cases p with
  | v d => cases hs; exact I.store e hx h
  | n d => cases hs; exact I.storeN e hx h
  | s k => cases hs
theorem nws_ne {v w : V} {p q : Pl} {vs : List V} {ps : List Pl} (h : (nws (v :: vs) (p :: ps)).Nodup) (hw : (w, q) ∈ vs.zip ps) : (∃ d, p = .n d) → (∃ d, q = .n d) → w ≠ v := by
  rintro ⟨d, rfl⟩ ⟨d', rfl⟩ rfl
  have h1 := (List.nodup_cons.mp h).1
  apply h1
  clear h1 h
  induction vs generalizing ps with
  | nil => cases hw
  | cons x xs ih =>
    cases ps with
    | nil => cases hw
    | cons y ys =>
      rw [List.zip_cons_cons] at hw
      rcases List.mem_cons.mp hw with e | hw2
      · cases e
        exact List.mem_cons_self
      · cases y with
        | n d2 => exact List.mem_cons_of_mem _ (ih hw2)
        | v d2 => exact ih hw2
        | s k => exact ih hw2
theorem nws_tl {v : V} {p : Pl} {vs : List V} {ps : List Pl} (h : (nws (v :: vs) (p :: ps)).Nodup) : (nws vs ps).Nodup := by
  cases p with
  | n d => exact (List.nodup_cons.mp h).2
  | v d => exact h
  | s k => exact h
theorem PostS.ofSeqPut {s : Sl} {k : MS} (q : PostS N B H W ((putSl ρ i s).seq k)) : ∃ x, ρ[i]? = some x ∧ ¬ isI x = true ∧ PostS N B H W (k (ρ.set i s)) := by
  unfold putSl at q
  cases e : ρ[i]? with
  | none => rw [e] at q; exact q.elim
  | some x =>
    rw [e] at q
    by_cases hx : isI x = true
    · simp only [if_pos hx] at q; exact q.elim
    · simp only [if_neg hx] at q; exact ⟨x, rfl, hx, q⟩
theorem ss_par2 (h : SA N t fs) : SS N (tPar i j t) (sPar2 i j fs) := by
  intro B ρ σ H W I hp
  unfold sPar2 at hp
  refine Post.out h I hp fun vs ps ρ1 B1 H1 I1 s1 r1 q => ?_
  obtain ⟨hpl, hnd, _⟩ := r1
  cases hpl with
  | nil => exact q.elim
  | @cons v vs p ps h1 hpl =>
    cases hpl with
    | nil => exact q.elim
    | @cons w ws p' ps h2 hpl =>
      cases hpl with
      | cons _ _ => exact q.elim
      | nil =>
        refine ⟨v, w, rfl, ?_⟩
        simp only at q
        cases e1 : plSl p with
        | none => simp only [e1] at q; exact q.elim
        | some a =>
          cases e2 : plSl p' with
          | none => simp only [e1, e2] at q; exact q.elim
          | some b =>
            simp only [e1, e2] at q
            obtain ⟨x, ex, hx, q⟩ := q.ofSeqPut
            obtain ⟨y, ey, hy, q⟩ := q.ofPut
            obtain ⟨I2, st⟩ := I1.storeP ex hx h1 e1
            have h2' := st w p' h2 (by rw [e2]; intro z; cases z) (nws_ne hnd (by simp))
            obtain ⟨I3, _⟩ := I2.storeP ey hy h2' e2
            exact q _ B1 H1 I3 SameH.rfl
theorem ss_par3 (h : SA N t fs) : SS N (tPar3 i j l t) (sPar3 i j l fs) := by
  intro B ρ σ H W I hp
  unfold sPar3 at hp
  refine Post.out h I hp fun vs ps ρ1 B1 H1 I1 s1 r1 q => ?_
  obtain ⟨hpl, hnd, _⟩ := r1
  cases hpl with
  | nil => exact q.elim
  | @cons v vs p ps h1 hpl =>
    cases hpl with
    | nil => exact q.elim
    | @cons w ws p' ps h2 hpl =>
      cases hpl with
      | nil => exact q.elim
      | @cons u us p'' ps h3 hpl =>
        cases hpl with
        | cons _ _ => exact q.elim
        | nil =>
          refine ⟨v, w, u, rfl, ?_⟩
          simp only at q
          cases e1 : plSl p with
          | none => simp only [e1] at q; exact q.elim
          | some a =>
            cases e2 : plSl p' with
            | none => simp only [e1, e2] at q; exact q.elim
            | some b =>
              cases e3 : plSl p'' with
              | none => simp only [e1, e2, e3] at q; exact q.elim
              | some c =>
                simp only [e1, e2, e3] at q
                have q : PostS N B1 H1 W ((putSl ρ1 i a).seq fun ρ => (putSl ρ j b).seq fun ρ => putSl ρ l c) := by
                  revert q
                  cases hq : putSl ρ1 i a <;> exact id
                obtain ⟨x, ex, hx, q⟩ := q.ofSeqPut
                obtain ⟨y, ey, hy, q⟩ := q.ofSeqPut
                obtain ⟨z, ez, hz, q⟩ := q.ofPut
                obtain ⟨I2, st⟩ := I1.storeP ex hx h1 e1
                have h2' := st w p' h2 (by rw [e2]; intro z; cases z) (nws_ne hnd (by simp))
                have h3' := st u p'' h3 (by rw [e3]; intro z; cases z) (nws_ne hnd (by simp))
                obtain ⟨I3, st2⟩ := I2.storeP ey hy h2' e2
                have h3'' := st2 u p'' h3' (by rw [e3]; intro z; cases z) (nws_ne (nws_tl hnd) (by simp))
                obtain ⟨I4, _⟩ := I3.storeP ez hz h3'' e3
                exact q _ B1 H1 I4 SameH.rfl
end

/-! ### M10. what is walked, loops -/
def ItOk (K : PySem.W.Frag) (ca : Str → Addr) (J : It) (B : Addr → Bool) (H : Hp) (items : List D) : Prop := ∀ B2 H2, SameH (mask H B) (mask H2 B2) → Live B2 H2 →
  (∀ i d, items[i]? = some d → J.go i H2 ∧ ∀ x H3, J.yld i H2 x H3 → SameH H2 H3 ∧ Rep K ca (mask H3 B2) x d) ∧ ∀ i, i = items.length → J.stop i H2
def rIt : Rel (List D) It := fun N _ _ _ _ B' _ H' J ds => ItOk N.K N.ca J B' H' ds
theorem back_It : Back rIt := fun _ _ _ _ _ _ _ _ _ _ _ _ _ _ r => r
abbrev SIt (N : Cn) (t : TI) (f : MM (List D)) : Prop := Jd rIt N t f
def lstOf : D → Option (List D)
  | .lst ds | .lsq ds => some ds
  | _ => none
def strOf : D → Option (List Nat)
  | .str x => some x
  | _ => none
def mIt (g : D → Option (List D)) (f : MM D) : MM (List D) := fun ρ => (f ρ).bind fun x => (Rs.of (g x.1)).bind fun ds => .ok (ds, x.2)
def mItA (g : List D → Option (List D)) (fs : MM (List Pl)) : MM (List D) := fun ρ => (fs ρ).bind fun x => (Rs.of (vals x.1)).bind fun vs => (Rs.of (g vs)).bind fun ds => .ok (ds, x.2)
def enumD (ds : List D) : List D := ds.mapIdx fun i d => .tup [.int i, d]
def rngD (lo : Int) (n : Nat) : List D := (List.range n).map fun (k : Nat) => D.int (lo + (k : Int))
def gRng1 : List D → Option (List D)
  | [.int j] => if -(2 ^ 62) ≤ j ∧ j < 2 ^ 62 then some (rngD 0 j.toNat) else none
  | _ => none
def gRng2 : List D → Option (List D)
  | [.int i, .int j] => if -(2 ^ 62) ≤ i ∧ i < 2 ^ 62 ∧ -(2 ^ 62) ≤ j ∧ j < 2 ^ 62 then some (rngD i (j - i).toNat) else none
  | _ => none
def gEnumL : List D → Option (List D)
  | [d] => (lstOf d).map enumD
  | _ => none
def gEnumT : List D → Option (List D)
  | [d] => (tupOf d).map enumD
  | _ => none
section
variable {N : Cn} {B B' B1 B2 : Addr → Bool} {ρ ρ' ρ1 ρ2 : Env'} {σ σ' : L2.St} {H H' H1 H2 : Hp} {te : TE} {f : MM D} {t : TA} {fs : MM (List Pl)}
theorem rep_lstOf {K : PySem.W.Frag} {ca : Str → Addr} {H : Hp} {v : V} {d : D} {ds : List D} (r : Rep K ca H v d) (e : lstOf d = some ds) : ∃ a xs, v = .ref a ∧ SqL K H a xs ∧ RepA K ca H xs ds := by
  cases d <;> first | (cases e; done) | skip
  · cases e; cases r with | lst h r => exact ⟨_, _, rfl, SqL.of h, r⟩
  · cases e; cases r with | lsq h r => exact ⟨_, _, rfl, h, r⟩
theorem rep_tupOf {K : PySem.W.Frag} {ca : Str → Addr} {H : Hp} {v : V} {d : D} {ds : List D} (r : Rep K ca H v d) (e : tupOf d = some ds) : ∃ a xs, v = .ref a ∧ SqT K H a xs ∧ RepA K ca H xs ds := by
  cases d <;> first | (cases e; done) | skip
  · cases e; cases r with | tup h r => exact ⟨_, _, rfl, SqT.of h, r⟩
  · cases e; cases r with | tpq h r => exact ⟨_, _, rfl, h, r⟩
theorem it_list {K : PySem.W.Frag} {ca : Str → Addr} {a : Addr} {xs : List V} {ds : List D} (h : SqL K (mask H B) a xs) (r : RepA K ca (mask H B) xs ds) : ItOk K ca (Itl K a) B H ds := by
  intro B2 H2 s lv
  have h2 : SqL K H2 a xs := sqL_up mask_le (sqL_up s h)
  refine ⟨fun i d e => ?_, fun i hi => ⟨xs, h2, by rw [r.len, hi]; exact Nat.le_refl _⟩⟩
  obtain ⟨x, ex, rx⟩ := r.get e
  refine ⟨⟨xs, x, h2, ex⟩, fun y H3 hy => ?_⟩
  obtain ⟨rfl, hy⟩ := hy
  have := hy xs h2
  rw [ex] at this; cases this
  exact ⟨SameH.rfl, rx.up s⟩
theorem it_tup {K : PySem.W.Frag} {ca : Str → Addr} {a : Addr} {xs : List V} {ds : List D} (h : SqT K (mask H B) a xs) (r : RepA K ca (mask H B) xs ds) : ItOk K ca (Itt K a) B H ds := by
  intro B2 H2 s lv
  have h2 : SqT K H2 a xs := sqT_up mask_le (sqT_up s h)
  refine ⟨fun i d e => ?_, fun i hi => ⟨xs, h2, by rw [r.len, hi]; exact Nat.le_refl _⟩⟩
  obtain ⟨x, ex, rx⟩ := r.get e
  refine ⟨⟨xs, x, h2, ex⟩, fun y H3 hy => ?_⟩
  obtain ⟨rfl, hy⟩ := hy
  have := hy xs h2
  rw [ex] at this; cases this
  exact ⟨SameH.rfl, rx.up s⟩
theorem live_new {B : Addr → Bool} {H : Hp} {p : Addr} (lv : Live B H) (hp : H p = none) : B p = false := by
  cases e : B p with
  | false => rfl
  | true => exact absurd hp (lv p e)
theorem rep_pair {K : PySem.W.Frag} {ca : Str → Addr} {H : Hp} {B : Addr → Bool} {T : Addr} {i : Nat} {x : V} {d : D} (lv : Live B H) (hT : H T = none) (rx : Rep K ca (mask H B) x d) : Rep K ca (mask (upd H T (.tup [.int (i : Nat), x])) B) (.ref T) (.tup [.int i, d]) := by
  have s : SameH (mask H B) (mask (upd H T (.tup [.int (i : Nat), x])) B) := mask_up (SameH.new hT)
  exact .tup (mask_get (live_new lv hT) upd_same) (.cons (.int _) (.cons (rx.up s) .nil))
theorem enum_get {ds : List D} {i : Nat} {d : D} (e : (enumD ds)[i]? = some d) : ∃ d', ds[i]? = some d' ∧ d = .tup [.int i, d'] := by
  unfold enumD at e
  rw [List.getElem?_mapIdx, Option.map_eq_some_iff] at e
  obtain ⟨d', e1, e2⟩ := e
  exact ⟨d', e1, e2.symm⟩
theorem it_enum {K : PySem.W.Frag} {ca : Str → Addr} {a : Addr} {xs : List V} {ds : List D} (h : SqL K (mask H B) a xs) (r : RepA K ca (mask H B) xs ds) : ItOk K ca (Ite K a) B H (enumD ds) := by
  intro B2 H2 s lv
  have h2 : SqL K H2 a xs := sqL_up mask_le (sqL_up s h)
  refine ⟨fun i d e => ?_, fun i hi => ⟨xs, h2, by rw [r.len, hi]; simp [enumD]⟩⟩
  obtain ⟨d', e1, rfl⟩ := enum_get e
  obtain ⟨x, ex, rx⟩ := r.get e1
  refine ⟨⟨xs, x, h2, ex⟩, fun y H3 hy => ?_⟩
  obtain ⟨T, x', rfl, hT, rfl, hy⟩ := hy
  have := hy xs h2
  rw [ex] at this; cases this
  exact ⟨SameH.new hT, rep_pair lv hT (rx.up s)⟩
theorem rng_get {lo : Int} {n i : Nat} {d : D} (e : (rngD lo n)[i]? = some d) : i < n ∧ d = .int (lo + i) := by
  unfold rngD at e
  rw [List.getElem?_map, Option.map_eq_some_iff] at e
  obtain ⟨k, e1, e2⟩ := e
  rw [List.getElem?_eq_some_iff] at e1
  obtain ⟨h1, h2⟩ := e1
  rw [List.getElem_range] at h2
  subst h2
  exact ⟨by simpa using h1, e2.symm⟩
theorem it_rng {K : PySem.W.Frag} {ca : Str → Addr} {lo : Int} {n : Nat} : ItOk K ca (Itr lo n) B H (rngD lo n) := by
  intro B2 H2 s lv
  refine ⟨fun i d e => ?_, fun i hi => by show n ≤ i; rw [hi]; simp [rngD]⟩
  obtain ⟨h1, rfl⟩ := rng_get e
  refine ⟨h1, fun y H3 hy => ?_⟩
  obtain ⟨rfl, rfl⟩ := hy
  exact ⟨SameH.rfl, .int _⟩
theorem it_str {K : PySem.W.Frag} {ca : Str → Addr} {x : List Nat} : ItOk K ca (Its (S x)) B H (x.map fun c => D.str [c]) := by
  intro B2 H2 s lv
  refine ⟨fun i d e => ?_, fun i hi => by show (S x).cps.size ≤ i; rw [hi]; simp [S]⟩
  rw [List.getElem?_map, Option.map_eq_some_iff] at e
  obtain ⟨c, e1, rfl⟩ := e
  refine ⟨?_, fun y H3 hy => ?_⟩
  · show i < (S x).cps.size
    have := (List.getElem?_eq_some_iff.mp e1).1
    simpa [S] using this
  · obtain ⟨rfl, c', e2, rfl⟩ := hy
    have : x[i]? = some c' := by simpa [S] using e2
    rw [e1] at this; cases this
    exact ⟨SameH.rfl, .str [c]⟩
theorem si_list (h : SE N te f) : SIt N (iList N.K te) (mIt lstOf f) := by
  intro B ρ σ H Q I hp
  unfold iList
  refine Post.next back_It h I hp fun v d ρ1 B1 H1 I1 s1 r1 q => ?_
  obtain ⟨ds, e, q⟩ := q.opt
  obtain ⟨a, xs, rfl, h1, r⟩ := rep_lstOf r1 e
  exact ⟨a, rfl, ⟨xs, sqL_up mask_le h1⟩, q.ok I1 Stp.rfl (it_list h1 r)⟩
theorem si_tup (h : SE N te f) : SIt N (iTup N.K te) (mIt tupOf f) := by
  intro B ρ σ H Q I hp
  unfold iTup
  refine Post.next back_It h I hp fun v d ρ1 B1 H1 I1 s1 r1 q => ?_
  obtain ⟨ds, e, q⟩ := q.opt
  obtain ⟨a, xs, rfl, h1, r⟩ := rep_tupOf r1 e
  exact ⟨a, rfl, ⟨xs, sqT_up mask_le h1⟩, q.ok I1 Stp.rfl (it_tup h1 r)⟩
def gSigns (d : D) : Option (List D) := (strOf d).map fun x => x.map fun c => D.str [c]
theorem si_str (h : SE N te f) : SIt N (iStr te) (mIt gSigns f) := by
  intro B ρ σ H Q I hp
  unfold iStr
  refine Post.next back_It h I hp fun v d ρ1 B1 H1 I1 s1 r1 q => ?_
  obtain ⟨ds, e, q⟩ := q.opt
  cases d <;> first | (cases e; done) | skip
  cases e
  cases r1
  exact ⟨S _, rfl, q.ok I1 Stp.rfl it_str⟩
theorem rng1_ok {vs : List D} {ds : List D} (e : gRng1 vs = some ds) : ∃ j, vs = [.int j] ∧ (-(2 ^ 62) ≤ j ∧ j < 2 ^ 62) ∧ ds = rngD 0 j.toNat := by
  unfold gRng1 at e
  split at e
  · obtain ⟨h, rfl⟩ := ifo e; exact ⟨_, rfl, h, rfl⟩
  · cases e
theorem rng2_ok {vs : List D} {ds : List D} (e : gRng2 vs = some ds) : ∃ i j, vs = [.int i, .int j] ∧ (-(2 ^ 62) ≤ i ∧ i < 2 ^ 62 ∧ -(2 ^ 62) ≤ j ∧ j < 2 ^ 62) ∧ ds = rngD i (j - i).toNat := by
  unfold gRng2 at e
  split at e
  · obtain ⟨h, rfl⟩ := ifo e; exact ⟨_, _, rfl, h, rfl⟩
  · cases e
theorem si_rng1 (h : SA N t fs) : SIt N (iRng1 t) (mItA gRng1 fs) := by
  intro B ρ σ H Q I hp
  unfold iRng1
  refine Post.next back_It h I hp fun vs ps ρ1 B1 H1 I1 s1 r1 q => ?_
  obtain ⟨ws, e, q⟩ := q.opt
  obtain ⟨ds, e2, q⟩ := q.opt
  obtain ⟨j, rfl, hj, rfl⟩ := rng1_ok e2
  obtain ⟨v, rfl, rv⟩ := rep1 (vals_rep r1.1 e)
  cases rv
  exact ⟨j, rfl, hj.1, hj.2, q.ok I1 Stp.rfl it_rng⟩
theorem si_rng2 (h : SA N t fs) : SIt N (iRng2 t) (mItA gRng2 fs) := by
  intro B ρ σ H Q I hp
  unfold iRng2
  refine Post.next back_It h I hp fun vs ps ρ1 B1 H1 I1 s1 r1 q => ?_
  obtain ⟨ws, e, q⟩ := q.opt
  obtain ⟨ds, e2, q⟩ := q.opt
  obtain ⟨i, j, rfl, hj, rfl⟩ := rng2_ok e2
  obtain ⟨v, w, rfl, rv, rw'⟩ := rep2 (vals_rep r1.1 e)
  cases rv; cases rw'
  exact ⟨i, j, rfl, hj, q.ok I1 Stp.rfl it_rng⟩
theorem enumL_ok {vs : List D} {ds : List D} (e : gEnumL vs = some ds) : ∃ d es, vs = [d] ∧ lstOf d = some es ∧ ds = enumD es := by
  unfold gEnumL at e
  split at e
  · rw [Option.map_eq_some_iff] at e
    obtain ⟨es, e1, e2⟩ := e
    exact ⟨_, es, rfl, e1, e2.symm⟩
  · cases e
theorem si_enum (h : SA N t fs) : SIt N (iEnum N.K t) (mItA gEnumL fs) := by
  intro B ρ σ H Q I hp
  unfold iEnum
  refine Post.next back_It h I hp fun vs ps ρ1 B1 H1 I1 s1 r1 q => ?_
  obtain ⟨ws, e, q⟩ := q.opt
  obtain ⟨ds, e2, q⟩ := q.opt
  obtain ⟨d, es, rfl, e3, rfl⟩ := enumL_ok e2
  obtain ⟨v, rfl, rv⟩ := rep1 (vals_rep r1.1 e)
  obtain ⟨a, xs, rfl, h1, r⟩ := rep_lstOf rv e3
  exact ⟨a, xs, rfl, sqL_up mask_le h1, q.ok I1 Stp.rfl (it_enum h1 r)⟩
end
def forL (mg : MG) (body : MS) : List D → Env' → Out
  | [], ρ => .nx ρ
  | d :: ds, ρ => match mg d ρ with
    | none => .no
    | some ρ1 => match body ρ1 with
      | .nx ρ2 => forL mg body ds ρ2
      | .ct ρ2 => forL mg body ds ρ2
      | .bk ρ2 => .nx ρ2
      | .no => .no
      | .rt n d ρ2 => .rt n d ρ2
      | .er c fs => .er c fs
def sFor (fi : MM (List D)) (mg : MG) (body : MS) : MS := fun ρ => (fi ρ).out fun x => forL mg body x.1 x.2
def whileL (c : MM Bool) (body : MS) : Nat → Env' → Out
  | 0, _ => .no
  | n + 1, ρ => (c ρ).out fun x => if x.1 = true then match body x.2 with
      | .nx ρ2 => whileL c body n ρ2
      | .ct ρ2 => whileL c body n ρ2
      | .bk ρ2 => .nx ρ2
      | .no => .no
      | .rt n d ρ2 => .rt n d ρ2
      | .er c fs => .er c fs
    else .nx x.2
open Classical in
noncomputable def sWhile (c : MM Bool) (body : MS) : MS := fun ρ => if h : ∃ n, whileL c body n ρ ≠ .no then whileL c body h.choose ρ else .no
theorem whileL_up {c : MM Bool} {body : MS} : ∀ {n m : Nat} {ρ : Env'}, n ≤ m → whileL c body n ρ ≠ .no → whileL c body m ρ = whileL c body n ρ
  | 0, _, _, _, h => absurd rfl h
  | n + 1, 0, _, h, _ => absurd h (by omega)
  | n + 1, m + 1, ρ, h, k => by
    unfold whileL at k ⊢
    cases e : c ρ with
    | no => rfl
    | er c fs => rfl
    | ok x =>
      rw [e] at k
      simp only [out_ok] at k ⊢
      by_cases hx : x.1 = true
      · simp only [if_pos hx] at k ⊢
        cases eb : body x.2 with
        | nx ρ2 => rw [eb] at k; exact whileL_up (by omega) k
        | ct ρ2 => rw [eb] at k; exact whileL_up (by omega) k
        | bk ρ2 => rfl
        | no => rfl
        | rt n d ρ2 => rfl
        | er c fs => rfl
      · simp only [if_neg hx]
theorem sWhile_eq {c : MM Bool} {body : MS} {n : Nat} {ρ : Env'} {o : Out} (h : whileL c body n ρ = o) (ho : o ≠ .no) : sWhile c body ρ = o := by
  have ex : ∃ n, whileL c body n ρ ≠ .no := ⟨n, by rw [h]; exact ho⟩
  unfold sWhile
  rw [dif_pos ex]
  have k := ex.choose_spec
  rw [← h]
  rcases Nat.le_total n ex.choose with l | l
  · exact whileL_up l (by rw [h]; exact ho)
  · exact (whileL_up l k).symm
/-- one turn of a while -/
def turnW (c : MM Bool) (body w : MS) : MS := fun ρ => (c ρ).out fun x => if x.1 = true then match body x.2 with
      | .nx ρ2 => w ρ2
      | .ct ρ2 => w ρ2
      | .bk ρ2 => .nx ρ2
      | .no => .no
      | .rt n d ρ2 => .rt n d ρ2
      | .er c fs => .er c fs
    else .nx x.2
theorem sWhile_ex {c : MM Bool} {body : MS} {ρ : Env'} (h : sWhile c body ρ ≠ .no) : ∃ n, sWhile c body ρ = whileL c body n ρ := by
  unfold sWhile at h ⊢
  by_cases ex : ∃ n, whileL c body n ρ ≠ .no
  · rw [dif_pos ex]; exact ⟨_, rfl⟩
  · rw [dif_neg ex] at h; exact absurd rfl h
theorem sWhile_turn {c : MM Bool} {body : MS} {ρ : Env'} : sWhile c body ρ = turnW c body (sWhile c body) ρ := by
  by_cases h : turnW c body (sWhile c body) ρ = .no
  · rw [h]
    by_cases k : sWhile c body ρ = .no
    · exact k
    · exfalso
      obtain ⟨n, e⟩ := sWhile_ex k
      rw [e] at k
      cases n with
      | zero => exact k rfl
      | succ n =>
        apply k
        unfold turnW at h
        unfold whileL at k ⊢
        cases ec : c ρ with
        | no => rfl
        | er c fs => rw [ec] at h; exact h
        | ok x =>
          rw [ec] at h k
          simp only [out_ok] at h k ⊢
          by_cases hx : x.1 = true
          · simp only [if_pos hx] at h k ⊢
            cases eb : body x.2 with
            | nx ρ2 => rw [eb] at h k; simp only at h k ⊢; rw [← sWhile_eq (n := n) rfl k]; exact h
            | ct ρ2 => rw [eb] at h k; simp only at h k ⊢; rw [← sWhile_eq (n := n) rfl k]; exact h
            | bk ρ2 => rw [eb] at h; cases h
            | no => rfl
            | rt n d ρ2 => rw [eb] at h; cases h
            | er c fs => rw [eb] at h; cases h
          · simp only [if_neg hx] at h; cases h
  · have gen : ∀ {ρ2 : Env'}, sWhile c body ρ2 ≠ .no → ∃ n, whileL c body n ρ2 = sWhile c body ρ2 := fun k => let ⟨n, e⟩ := sWhile_ex k; ⟨n, e.symm⟩
    suffices ∃ n, whileL c body n ρ = turnW c body (sWhile c body) ρ by
      obtain ⟨n, e⟩ := this
      exact sWhile_eq e h
    unfold turnW at h ⊢
    cases ec : c ρ with
    | no => rw [ec] at h; exact absurd rfl h
    | er d fs => exact ⟨1, by unfold whileL; rw [ec]; rfl⟩
    | ok x =>
      rw [ec] at h
      simp only [out_ok] at h ⊢
      by_cases hx : x.1 = true
      · simp only [if_pos hx] at h ⊢
        cases eb : body x.2 with
        | nx ρ2 =>
          rw [eb] at h
          obtain ⟨n, e⟩ := gen h
          exact ⟨n + 1, by unfold whileL; rw [ec]; simp only [out_ok, if_pos hx, eb]; exact e⟩
        | ct ρ2 =>
          rw [eb] at h
          obtain ⟨n, e⟩ := gen h
          exact ⟨n + 1, by unfold whileL; rw [ec]; simp only [out_ok, if_pos hx, eb]; exact e⟩
        | bk ρ2 => exact ⟨1, by unfold whileL; rw [ec]; simp only [out_ok, if_pos hx, eb]⟩
        | no => rw [eb] at h; exact absurd rfl h
        | rt n d ρ2 => exact ⟨1, by unfold whileL; rw [ec]; simp only [out_ok, if_pos hx, eb]⟩
        | er c fs => exact ⟨1, by unfold whileL; rw [ec]; simp only [out_ok, if_pos hx, eb]⟩
      · simp only [if_neg hx]
        exact ⟨1, by unfold whileL; rw [ec]; simp only [out_ok, if_neg hx]⟩
section
variable {N : Cn} {te : TE} {f : MM D} {g : TG} {mg : MG} {ts : List Nat} {wi : TI} {fi : MM (List D)} {tb : TS} {body : MS} {tc : TT} {c : MM Bool}
theorem ss_for (hi : SIt N wi fi) (hg : SG N ts g mg) (hb : SS N tb body) : SS N (tFor wi g tb) (sFor fi mg body) := by
  intro B ρ σ H W I hp
  unfold sFor at hp
  refine Post.out hi I hp fun J items ρ1 B1 H1 I1 s1 r1 q => ?_
  simp only at q
  refine ⟨fun i m σ' H' => m + i = items.length ∧ ∃ B' ρ', Iv N B' ρ' σ' H' ∧ SameH (mask H1 B1) (mask H' B') ∧ PostS N B' H' W (forL mg body (items.drop i) ρ'), ⟨items.length, rfl, B1, ρ1, I1, SameH.rfl, q⟩, ?_⟩
  rintro i m σ2 H2 ⟨hm, B2, ρ2, I2, s2, q2⟩
  obtain ⟨hgo, hstop⟩ := r1 B2 H2 s2 I2.tr
  by_cases hi : i < items.length
  · refine .inr ?_
    have ei : items[i]? = some items[i] := List.getElem?_eq_getElem hi
    rw [List.drop_eq_getElem_cons hi] at q2
    obtain ⟨go, yl⟩ := hgo i _ ei
    refine ⟨go, fun σ' H' => ∃ m', m' < m ∧ m' + (i + 1) = items.length ∧ ∃ B' ρ', Iv N B' ρ' σ' H' ∧ SameH (mask H1 B1) (mask H' B') ∧ PostS N B' H' W (forL mg body (items.drop (i + 1)) ρ'), fun σ' H' h => h, fun x H3 hy => ?_⟩
    obtain ⟨s3, rx⟩ := yl x H3 hy
    have I3 := I2.grow s3
    unfold forL at q2
    cases eg : mg items[i] ρ2 with
    | none => rw [eg] at q2; exact q2.elim
    | some ρ3 =>
      rw [eg] at q2
      simp only at q2
      refine hg B2 ρ2 σ2 H3 x _ _ I3 rx (fun ρ4 e4 σ4 I4 _ _ _ => ?_) ⟨ρ3, eg⟩
      rw [eg] at e4; cases e4
      have q3 := PostS.from (mask_up s3) q2
      have sT : ∀ {σ' B' H' ρ'}, Iv N B' ρ' σ' H' → SameH (mask H3 B2) (mask H' B') → PostS N B2 H3 W (forL mg body (items.drop (i + 1)) ρ') → ∃ m', m' < m ∧ m' + (i + 1) = items.length ∧ ∃ B' ρ', Iv N B' ρ' σ' H' ∧ SameH (mask H1 B1) (mask H' B') ∧ PostS N B' H' W (forL mg body (items.drop (i + 1)) ρ') :=
        fun I' s' p' => ⟨m - 1, by omega, by omega, _, _, I', (s2.tr (mask_up s3)).tr s', PostS.from s' p'⟩
      refine hb B2 ρ3 σ4 H3 _ I4 ?_
      cases eb : body ρ3 with
      | no => rw [eb] at q3; exact q3.elim
      | er c fs => rw [eb] at q3; exact q3
      | nx ρ5 => rw [eb] at q3; exact fun σ' B' H' I' s' => sT I' s' q3
      | ct ρ5 => rw [eb] at q3; exact fun σ' B' H' I' s' => sT I' s' q3
      | bk ρ5 => rw [eb] at q3; exact q3
      | rt nw d ρ5 => rw [eb] at q3; cases nw <;> exact q3
  · refine .inl ⟨hstop i (by omega), ?_⟩
    rw [List.drop_eq_nil_of_le (by omega)] at q2
    exact q2 σ2 B2 H2 I2 SameH.rfl
theorem ss_while (hc : STt N tc c) (hb : SS N tb body) : SS N (tWhile tc tb) (sWhile c body) := by
  intro B ρ σ H W I hp
  have h0 : sWhile c body ρ ≠ .no := fun z => by rw [z] at hp; exact hp
  obtain ⟨n, e⟩ := sWhile_ex h0
  rw [e] at hp
  refine ⟨fun m σ' H' => ∃ B' ρ', Iv N B' ρ' σ' H' ∧ PostS N B' H' W (whileL c body m ρ'), ⟨n, B, ρ, I, hp⟩, ?_⟩
  rintro m σ2 H2 ⟨B2, ρ2, I2, q2⟩
  cases m with
  | zero => exact q2.elim
  | succ m =>
    unfold whileL at q2
    refine Post.out hc I2 q2 fun b b' ρ3 B3 H3 I3 s3 r3 q => ?_
    cases (show b = b' from r3)
    simp only at q
    by_cases hbt : b = true
    · simp only [if_pos hbt] at q ⊢
      refine ⟨fun σ' H' => ∃ B' ρ', Iv N B' ρ' σ' H' ∧ PostS N B' H' W (whileL c body m ρ'), fun σ' H' h => ⟨m, by omega, h⟩, hb B3 ρ3 σ2 H3 _ I3 ?_⟩
      cases eb : body ρ3 with
      | no => rw [eb] at q; exact q.elim
      | er c fs => rw [eb] at q; exact q
      | nx ρ5 => rw [eb] at q; exact fun σ' B' H' I' s' => ⟨B', ρ5, I', PostS.from s' q⟩
      | ct ρ5 => rw [eb] at q; exact fun σ' B' H' I' s' => ⟨B', ρ5, I', PostS.from s' q⟩
      | bk ρ5 => rw [eb] at q; exact q
      | rt nw d ρ5 => rw [eb] at q; cases nw <;> exact q
    · simp only [if_neg hbt] at q ⊢
      exact q σ2 B3 H3 I3 SameH.rfl
end

/-! ### M11. list comprehensions -/
def wipeM : List Nat → Env' → Option Env'
  | [], ρ => some ρ
  | v :: vs, ρ => (wipeM vs ρ).bind fun ρ' => match ρ'[v]? with
    | some x => if isI x = true then none else some (ρ'.set v .e)
    | none => none
def lcL (mg : MG) (mt : MM Bool) (me : MM D) (vs : List Nat) : List D → List D → Env' → Rs (List D × Env')
  | [], acc, ρ => (Rs.of (wipeM vs ρ)).bind fun ρ' => .ok (acc, ρ')
  | d :: ds, acc, ρ => match mg d ρ with
    | none => .no
    | some ρ1 => match mt ρ1 with
      | .ok (true, ρ2) => match me ρ2 with
        | .ok (y, ρ3) => if acc.length < sizeLine then (Rs.of (wipeM vs ρ3)).bind fun ρ4 => lcL mg mt me vs ds (acc ++ [y]) ρ4 else .no
        | _ => .no
      | .ok (false, ρ2) => (Rs.of (wipeM vs ρ2)).bind fun ρ4 => lcL mg mt me vs ds acc ρ4
      | _ => .no
def mYes : MM Bool := fun ρ => .ok (true, ρ)
def mLc (fi : MM (List D)) (mg : MG) (mt : MM Bool) (me : MM D) (vs : List Nat) : MM D := fun ρ => (fi ρ).bind fun x => (Rs.of (wipeM vs x.2)).bind fun ρ1 => (lcL mg mt me vs x.1 [] ρ1).bind fun y => .ok (.lst y.1, y.2)
abbrev Cn.e0 (N : Cn) : Cn := { N with E := E0 }
section
variable {N : Cn} {B B' B1 B2 : Addr → Bool} {ρ ρ' ρ1 ρ2 : Env'} {σ σ' : L2.St} {H H' H1 H2 : Hp} {vs ts : List Nat}
theorem Iv.e0 (I : Iv N B ρ σ H) : Iv N.e0 B ρ σ H := ⟨I.fr, I.cb, I.ci, I.ck, I.bb, I.bh, I.tr, I.ln, fun j x e => by
  have h := I.sl j x e
  cases x <;> exact h, I.ds⟩
theorem Iv.unE (I : Iv N.e0 B ρ σ H) : Iv N B ρ σ H := ⟨I.fr, I.cb, I.ci, I.ck, I.bb, I.bh, I.tr, I.ln, fun j x e => by
  have h := I.sl j x e
  cases x <;> exact h, I.ds⟩
theorem wipeM_len : ∀ {vs : List Nat} {ρ ρ' : Env'}, wipeM vs ρ = some ρ' → ρ'.length = ρ.length
  | [], _, _, h => by cases h; rfl
  | v :: vs, ρ, ρ', h => by
    obtain ⟨ρ1, e1, e2⟩ := Option.bind_eq_some_iff.mp h
    cases ex : ρ1[v]? with
    | none => simp only [ex] at e2; cases e2
    | some x =>
      simp only [ex] at e2
      by_cases hx : isI x = true
      · rw [if_pos hx] at e2; cases e2
      · rw [if_neg hx] at e2; cases e2
        rw [List.length_set]
        exact wipeM_len e1
theorem wipeM_get : ∀ {vs : List Nat} {ρ ρ' : Env'}, wipeM vs ρ = some ρ' → ∀ (j : Nat), (j ∈ vs → ρ'[j]? = some .e) ∧ (j ∉ vs → ρ'[j]? = ρ[j]?)
  | [], _, _, h, j => by cases h; exact ⟨fun z => (List.not_mem_nil z).elim, fun _ => rfl⟩
  | v :: vs, ρ, ρ', h, j => by
    obtain ⟨ρ1, e1, e2⟩ := Option.bind_eq_some_iff.mp h
    have ih := wipeM_get e1 j
    cases ex : ρ1[v]? with
    | none => simp only [ex] at e2; cases e2
    | some x =>
      simp only [ex] at e2
      by_cases hx : isI x = true
      · rw [if_pos hx] at e2; cases e2
      · rw [if_neg hx] at e2; cases e2
        by_cases q : v = j
        · subst q
          rw [List.getElem?_set_self (List.getElem?_eq_some_iff.mp ex).1]
          exact ⟨fun _ => rfl, fun z => absurd List.mem_cons_self z⟩
        · rw [List.getElem?_set_ne q]
          exact ⟨fun z => ih.1 ((List.mem_cons.mp z).resolve_left fun w => q w.symm), fun z => ih.2 fun w => z (List.mem_cons_of_mem _ w)⟩
theorem Iv.wiped (I : Iv N B ρ σ H) : ∀ {vs : List Nat} {ρ' : Env'}, wipeM vs ρ = some ρ' → Iv N B ρ' σ H
  | [], _, h => by cases h; exact I
  | v :: vs, ρ', h => by
    obtain ⟨ρ1, e1, e2⟩ := Option.bind_eq_some_iff.mp h
    have I1 := I.wiped e1
    cases ex : ρ1[v]? with
    | none => simp only [ex] at e2; cases e2
    | some x =>
      simp only [ex] at e2
      by_cases hx : isI x = true
      · rw [if_pos hx] at e2; cases e2
      · rw [if_neg hx] at e2; cases e2
        exact I1.put0 ex (not_isI hx) (fun _ z => nomatch z) trivial
theorem wipe_get : ∀ {vs : List Nat} {σ : L2.St} {j : Nat}, j ∉ vs → (wipe σ vs)[j]? = σ[j]?
  | [], _, _, _ => rfl
  | v :: vs, σ, j, h => by
    show ((wipe σ vs).set v none)[j]? = _
    rw [List.getElem?_set_ne (fun z => h (by rw [z]; exact List.mem_cons_self))]
    exact wipe_get fun z => h (List.mem_cons_of_mem _ z)
theorem wipe_in : ∀ {vs : List Nat} {σ : L2.St} {j : Nat}, j ∈ vs → j < σ.length → (wipe σ vs)[j]? = some none
  | [], _, _, h, _ => nomatch h
  | v :: vs, σ, j, h, hl => by
    show ((wipe σ vs).set v none)[j]? = _
    by_cases q : v = j
    · subst q; rw [List.getElem?_set_self (by rw [wipe_length]; exact hl)]
    · rw [List.getElem?_set_ne q]
      exact wipe_in ((List.mem_cons.mp h).resolve_left fun w => q w.symm) hl
theorem wipe_eq {vs : List Nat} {σ σ' : L2.St} (hl : σ'.length = σ.length) (h : ∀ j, j ∉ vs → σ'[j]? = σ[j]?) : wipe σ' vs = wipe σ vs := by
  apply List.ext_getElem?
  intro j
  by_cases q : j ∈ vs
  · by_cases l : j < σ.length
    · rw [wipe_in q l, wipe_in q (by rw [hl]; exact l)]
    · rw [List.getElem?_eq_none (by rw [wipe_length, hl]; omega), List.getElem?_eq_none (by rw [wipe_length]; omega)]
  · rw [wipe_get q, wipe_get q, h j q]
theorem Iv.wipeIn (I : Iv N B ρ σ H) (h : wipeM vs ρ = some ρ') : Iv N B ρ' (wipe σ vs) H :=
  (I.wiped h).sig (wipe_length _ _) fun j x e ne => wipe_get fun z => by rw [(wipeM_get h j).1 z] at e; cases e; exact ne rfl
theorem Iv.wipeOut (I : Iv N B ρ (wipe σ vs) H) (h : wipeM vs ρ = some ρ') : Iv N B ρ' σ H :=
  (I.wiped h).sig (wipe_length _ _).symm fun j x e ne => (wipe_get fun z => by rw [(wipeM_get h j).1 z] at e; cases e; exact ne rfl).symm
theorem free_wiped {p : Addr} (f : Free ρ σ p) (h : wipeM vs ρ = some ρ') : Free ρ' (wipe σ vs) p := fun j d e => by
  by_cases q : j ∈ vs
  · rw [(wipeM_get h j).1 q] at e; cases e
  · rw [(wipeM_get h j).2 q] at e
    rw [wipe_get q]
    exact f j d e
theorem free_unwiped {p : Addr} (f : Free ρ (wipe σ vs) p) (h : wipeM vs ρ = some ρ') : Free ρ' σ p := fun j d e => by
  by_cases q : j ∈ vs
  · rw [(wipeM_get h j).1 q] at e; cases e
  · rw [(wipeM_get h j).2 q] at e
    rw [← wipe_get q]
    exact f j d e
/-- a temporary object is changed -/
theorem Iv.setTmp (I : Iv N B ρ σ H) {p : Addr} {o : HO} (h0 : N.H0 p = none) (hb : B p = true) (f : Free ρ σ p) : Iv N B ρ σ (upd H p o) := by
  have hm : mask (upd H p o) B = mask H B := mask_upd hb
  refine ⟨fun b u hc e => ?_, I.cb, I.ci, I.ck, I.bb, I.bh, fun b hb' => ?_, I.ln, fun j x e => ?_, I.ds⟩
  · rw [upd_ne (fun z => by rw [z, h0] at e; cases e)]; exact I.fr b u hc e
  · by_cases q : b = p
    · rw [q, upd_same]; intro z; cases z
    · rw [upd_ne q]; exact I.tr b hb'
  · have h := I.sl j x e
    cases x with
    | e => trivial
    | v d => obtain ⟨v, q, r⟩ := h; exact ⟨v, q, by rw [hm]; exact r⟩
    | o d =>
      obtain ⟨a, ob, q, h1, h2, h3, h4, c⟩ := h
      exact ⟨a, ob, q, h1, h2, h3, by rw [upd_ne (fun z => f j d e (by rw [← z]; exact of_bind q))]; exact h4, by rw [hm]; exact c⟩
    | i d =>
      obtain ⟨a, ob, q, h1, h2, c⟩ := h
      exact ⟨a, ob, q, h1, by rw [upd_ne (fun z => I.bh a (I.cb j a h1) (by rw [z]; exact h0))]; exact h2, by rw [hm]; exact c⟩
    | b d =>
      obtain ⟨v, q, r | ⟨a, ob, g0, g1, g2, g3, c⟩⟩ := h
      · exact ⟨v, q, .inl (by rw [hm]; exact r)⟩
      · exact ⟨v, q, .inr ⟨a, ob, g0, g1, g2, by rw [upd_ne (fun z => I.bh a g1 (by rw [z]; exact h0))]; exact g3, by rw [hm]; exact c⟩⟩
theorem st_yes : STt N tYes mYes := fun B ρ σ H Q I hp => hp.ok I Stp.rfl rfl
variable {g : TG} {mg : MG} {wi : TI} {fi : MM (List D)} {tt : TT} {mt : MM Bool} {te : TE} {me : MM D}
theorem sn_lc (hi : SIt N wi fi) (hg : SG N.e0 ts g mg) (hts : ∀ j ∈ ts, j ∈ vs) (ht : STt N.e0 tt mt) (he : SE N.e0 te me) : SN N (tLc wi g tt te vs) (mLc fi mg mt me vs) := by
  intro B ρ σ H Q I hp
  unfold mLc at hp
  unfold tLc
  refine Post.next back_N hi I hp fun J items ρ1 B1 H1 I1 s1 r1 q => ?_
  obtain ⟨ρ2, ew, q⟩ := q.opt
  simp only at ew q
  intro Dd hD
  have hnew := I1.newp (H' := upd H1 Dd (.lst [])) hD (SameH.new hD) (by rw [upd_same]; intro z; cases z)
  have I2 : Iv N (addB B1 Dd) ρ2 (wipe σ vs) (upd H1 Dd (.lst [])) := hnew.wipeIn ew
  have s2 : SameH (mask H1 B1) (mask (upd H1 Dd (.lst [])) (addB B1 Dd)) := mask_add hD (SameH.new hD)
  have f2 : Free ρ2 (wipe σ vs) Dd := free_wiped (I1.free hD) ew
  have h0 : N.H0 Dd = none := I1.no0 hD
  have hC : ∀ j, N.C j ≠ some Dd := I1.notC h0
  have wt : ∀ {σ2 : L2.St}, (∀ j, j ∉ ts → σ2[j]? = (wipe σ vs)[j]?) → σ2.length = (wipe σ vs).length → wipe σ2 vs = wipe σ vs := fun {σ2} h hl =>
    (wipe_eq hl fun j hj => h j fun z => hj (hts j z)).trans (wipe_eq (wipe_length _ _) fun j hj => wipe_get hj)
  refine ⟨fun i m H' => m + i = items.length ∧ ∃ B' ρ' acc accV, Iv N B' ρ' (wipe σ vs) H' ∧ SameH (mask H1 B1) (mask H' B') ∧
    (∀ p o, B1 p = true → Free ρ1 σ p → (∀ j, N.C j ≠ some p) → H1 p = some o → H' p = some o ∧ B' p = true ∧ Free ρ' (wipe σ vs) p) ∧ H' Dd = some (.lst accV) ∧ B' Dd = true ∧ Free ρ' (wipe σ vs) Dd ∧ RepA N.K N.ca (mask H' B') accV acc ∧
    Post rN N σ B1 ρ1 H1 ((lcL mg mt me vs (items.drop i) acc ρ').bind fun y => .ok (.lst y.1, y.2)) Q,
    ⟨items.length, rfl, addB B1 Dd, ρ2, [], [], I2, s2, fun p o g1 g2 g3 g4 => ⟨by rw [upd_ne (ne_of_none g4 hD)]; exact g4, add_of g1, free_wiped g2 ew⟩, upd_same, add_self, f2, .nil, q⟩, ?_⟩
  rintro i m H' ⟨hm, B', ρ', acc, accV, I', s', t', eD, bD, fD, rA', q⟩
  obtain ⟨hgo, hstop⟩ := r1 B' H' s' I'.tr
  by_cases hi' : i < items.length
  · refine .inr ?_
    rw [List.drop_eq_getElem_cons hi'] at q
    obtain ⟨go, yl⟩ := hgo i _ (List.getElem?_eq_getElem hi')
    refine ⟨go, _, fun H' h => h, fun x H3 hy => ?_⟩
    obtain ⟨s3, rx⟩ := yl x H3 hy
    have I3 := (I'.grow s3).e0
    unfold lcL at q
    cases eg : mg items[i] ρ' with
    | none => rw [eg] at q; exact q.elim
    | some ρa =>
      rw [eg] at q
      simp only at q
      refine hg B' ρ' (wipe σ vs) H3 x _ _ I3 rx (fun ρ4 e4 σ2 I4 k4 o4 l4 => ?_) ⟨ρa, eg⟩
      rw [eg] at e4; cases e4
      have w2 : wipe σ2 vs = wipe σ vs := wt (fun j hj => (k4 j hj).1) l4
      have fr2 : ∀ {p}, Free ρ' (wipe σ vs) p → Free ρa σ2 p := fun {p} f j d e => by
        by_cases hj : j ∈ ts
        · exact absurd e (o4 j d hj)
        · rw [(k4 j hj).2] at e
          rw [(k4 j hj).1]
          exact f j d e
      refine ⟨w2, ?_⟩
      refine ht B' ρa σ2 H3 _ I4 ?_
      cases et : mt ρa with
      | no => rw [et] at q; exact q.elim
      | er c fs => rw [et] at q; exact q.elim
      | ok z =>
        obtain ⟨b, ρb⟩ := z
        rw [et] at q
        intro b' B5 H5 I5 s5 r5
        cases (show b' = b from r5)
        obtain ⟨e5, b5, f5⟩ := s5.tm Dd _ bD (fr2 fD) hC (s3 _ _ eD)
        have T5 : ∀ p o, B1 p = true → Free ρ1 σ p → (∀ j, N.C j ≠ some p) → H1 p = some o → H5 p = some o ∧ B5 p = true ∧ Free ρb σ2 p := fun p o g1 g2 g3 g4 =>
          let ⟨a1, a2, a3⟩ := t' p o g1 g2 g3 g4
          s5.tm p o a2 (fr2 a3) g3 (s3 _ _ a1)
        have S5 : SameH (mask H1 B1) (mask H5 B5) := (s'.tr (mask_up s3)).tr s5.sm
        have R5 : RepA N.K N.ca (mask H5 B5) accV acc := (rA'.up (mask_up s3)).up s5.sm
        cases b with
        | true =>
          simp only at q
          rw [if_pos rfl]
          refine he B5 ρb σ2 H5 _ I5 ?_
          cases ee : me ρb with
          | no => rw [ee] at q; exact q.elim
          | er c fs => rw [ee] at q; exact q.elim
          | ok z =>
            obtain ⟨d, ρc⟩ := z
            rw [ee] at q
            intro y B6 H6 I6 s6 r6
            obtain ⟨e6, b6, f6⟩ := s6.tm Dd _ b5 f5 hC e5
            simp only at q
            by_cases hl : acc.length < sizeLine
            · simp only [if_pos hl] at q
              cases ew4 : wipeM vs ρc with
              | none => rw [ew4] at q; exact q.elim
              | some ρd =>
                rw [ew4] at q
                refine ⟨accV, e6, by rw [rA'.len]; exact hl, m - 1, by omega, by omega, B6, ρd, acc ++ [d], accV ++ [y], ?_⟩
                have I7 : Iv N B6 ρc σ2 (upd H6 Dd (.lst (accV ++ [y]))) := I6.unE.setTmp h0 b6 f6
                have I8 := I7.wipeIn ew4
                rw [w2] at I8
                have hm6 : mask (upd H6 Dd (.lst (accV ++ [y]))) B6 = mask H6 B6 := mask_upd b6
                refine ⟨I8, by rw [hm6]; exact S5.tr s6.sm, fun p o g1 g2 g3 g4 => ?_, upd_same, b6, by rw [← w2]; exact free_wiped f6 ew4, by rw [hm6]; exact (R5.up s6.sm).app (.cons r6 .nil), q⟩
                obtain ⟨a1, a2, a3⟩ := T5 p o g1 g2 g3 g4
                obtain ⟨c1, c2, c3⟩ := s6.tm p o a2 a3 g3 a1
                exact ⟨by rw [upd_ne (ne_of_none g4 hD)]; exact c1, c2, by rw [← w2]; exact free_wiped c3 ew4⟩
            · simp only [if_neg hl] at q; exact q.elim
        | false =>
          simp only at q
          rw [if_neg Bool.false_ne_true]
          cases ew4 : wipeM vs ρb with
          | none => rw [ew4] at q; exact q.elim
          | some ρd =>
            rw [ew4] at q
            have I8 := I5.unE.wipeIn ew4
            rw [w2] at I8
            refine ⟨m - 1, by omega, by omega, B5, ρd, acc, accV, I8, S5, fun p o g1 g2 g3 g4 => ?_, e5, b5, by rw [← w2]; exact free_wiped f5 ew4, R5, q⟩
            obtain ⟨a1, a2, a3⟩ := T5 p o g1 g2 g3 g4
            exact ⟨a1, a2, by rw [← w2]; exact free_wiped a3 ew4⟩
  · refine .inl ⟨hstop i (by omega), ?_⟩
    rw [List.drop_eq_nil_of_le (by omega)] at q
    unfold lcL at q
    cases ew4 : wipeM vs ρ' with
    | none => rw [ew4] at q; exact q.elim
    | some ρd =>
      rw [ew4] at q
      refine q (.ref Dd) B' H' (I'.wipeOut ew4) ⟨s', fun p o g1 g2 g3 g4 => ?_⟩ ⟨⟨Dd, _, rfl, h0, bD, free_unwiped fD ew4, eD, rA'⟩, notOld_new hD⟩
      obtain ⟨a1, a2, a3⟩ := t' p o g1 g2 g3 g4
      exact ⟨a1, a2, free_unwiped a3 ew4⟩
end

/-! ### M12. what a def promises by its mirror; calls -/
inductive Kd where
  | v | i | b
def cOf (ks : List Kd) (vs : List V) : Nat → Option Addr := fun j => match ks[j]?, vs[j]? with
  | some .i, some (.ref a) => some a
  | _, _ => none
theorem cOf_some {ks : List Kd} {vs : List V} {j : Nat} {a : Addr} (h : cOf ks vs j = some a) : ks[j]? = some .i ∧ vs[j]? = some (.ref a) := by
  unfold cOf at h
  split at h
  · rename_i e1 e2; cases h; exact ⟨e1, e2⟩
  · cases h
def ArgOk (K : PySem.W.Frag) (ca : Str → Addr) (H : Hp) (C : Nat → Option Addr) (B0 : Addr → Bool) (k : Kd) (v : V) (d : D) : Prop := match k with
  | .v => Rep K ca (mask H B0) v d
  | .i => ∃ a o, v = .ref a ∧ H a = some o ∧ Ct K ca (mask H B0) o d
  | .b => Rep K ca (mask H B0) v d ∨ ∃ a o, v = .ref a ∧ B0 a = true ∧ (∀ j, C j ≠ some a) ∧ H a = some o ∧ Ct K ca (mask H B0) o d
def ResOk (K : PySem.W.Frag) (ca : Str → Addr) (rn : Bool) (H H' : Hp) (B0 B1 : Addr → Bool) (v : V) (d : D) : Prop := match rn with
  | true => ∃ p o, v = .ref p ∧ H p = none ∧ H' p = some o ∧ B1 = addB B0 p ∧ Ct K ca (mask H' B1) o d
  | false => B1 = B0 ∧ Rep K ca (mask H' B0) v d
structure SpA (K : PySem.W.Frag) (ca : Str → Addr) (ks : List Kd) (vs : List V) (H : Hp) (B0 : Addr → Bool) (ds : List D) : Prop where
  lv : vs.length = ks.length
  ld : ds.length = ks.length
  al : Live B0 H
  cb : ∀ j b, cOf ks vs j = some b → B0 b = true
  ci : ∀ j k b, cOf ks vs j = some b → cOf ks vs k = some b → j = k
  ar : ∀ (j : Nat) (k : Kd) (v : V) (d : D), ks[j]? = some k → vs[j]? = some v → ds[j]? = some d → ArgOk K ca H (cOf ks vs) B0 k v d
abbrev Mr := List D → Rs (D × List D)
def spM (K : PySem.W.Frag) (ca : Str → Addr) (ks : List Kd) (rn rs : Bool) (m : Mr) : Sp := fun vs H Q E => ∃ (B0 : Addr → Bool) (ds : List D), SpA K ca ks vs H B0 ds ∧
  match m ds with
  | .no => False
  | .er c fs => rs = true ∧ XOk ⟨K, ca, H, cOf ks vs, B0, E⟩ c fs
  | .ok x => ∀ v H' B1, (∀ b o, (∀ j, cOf ks vs j ≠ some b) → H b = some o → H' b = some o) → (∀ j b, cOf ks vs j = some b → ∃ d o, x.2[j]? = some d ∧ H' b = some o ∧ Ct K ca (mask H' B1) o d) →
      ResOk K ca rn H H' B0 B1 v x.1 → Q v H'
def iniS : Kd → D → Sl
  | .v, d => .v d
  | .i, d => .i d
  | .b, d => .b d
def ini (ks : List Kd) (ds : List D) (n : Nat) : Env' := List.zipWith iniS ks ds ++ List.replicate n .e
def slotD (s : Sl) : D := s.d.getD .non
def outsD (ks : List Kd) (ρ : Env') : List D := (ρ.take ks.length).map slotD
def runM (rn : Bool) (ks : List Kd) (n : Nat) (m : MS) : Mr := fun ds => match m (ini ks ds n) with
  | .nx ρ => if rn = true then .no else .ok (.non, outsD ks ρ)
  | .rt nw d ρ => if rn = true ∧ nw = false then .no else .ok (d, outsD ks ρ)
  | .er c fs => .er c fs
  | _ => .no
section
variable {K : PySem.W.Frag} {ca : Str → Addr} {ks : List Kd} {vs : List V} {H : Hp} {B0 : Addr → Bool} {ds : List D} {E : XK}
theorem zw_get {j : Nat} {x : Sl} (e : (List.zipWith iniS ks ds)[j]? = some x) : ∃ k d, ks[j]? = some k ∧ ds[j]? = some d ∧ x = iniS k d := by
  rw [List.getElem?_zipWith] at e
  split at e
  · rename_i k d e1 e2; cases e; exact ⟨k, d, e1, e2, rfl⟩
  · cases e
theorem ini_get (hl : ds.length = ks.length) {n j : Nat} {x : Sl} (e : (ini ks ds n)[j]? = some x) : (∃ k d, ks[j]? = some k ∧ ds[j]? = some d ∧ x = iniS k d) ∨ x = .e := by
  unfold ini at e
  rw [List.getElem?_append] at e
  split at e
  · exact .inl (zw_get e)
  · rw [List.getElem?_replicate] at e
    split at e
    · cases e; exact .inr rfl
    · cases e
theorem start_get {N : List Str} {j : Nat} {v : V} (e : vs[j]? = some v) : (L2.start N vs)[j]? = some (some v) := by
  unfold L2.start
  rw [List.getElem?_append_left (by rw [List.length_map]; exact (List.getElem?_eq_some_iff.mp e).1), List.getElem?_map, e]
  rfl
theorem SpA.iv (h : SpA K ca ks vs H B0 ds) {N : List Str} (hN : ks.length ≤ N.length) (E : XK) : Iv ⟨K, ca, H, cOf ks vs, B0, E⟩ B0 (ini ks ds (N.length - ks.length)) (L2.start N vs) H where
  fr := fun _ _ _ e => e
  cb := h.cb
  ci := h.ci
  ck := fun j b e => by
    obtain ⟨e1, e2⟩ := cOf_some e
    have hj : j < ks.length := (List.getElem?_eq_some_iff.mp e1).1
    refine ⟨ds[j]'(by rw [h.ld]; exact hj), ?_⟩
    unfold ini
    rw [List.getElem?_append_left (by rw [List.length_zipWith, h.ld]; omega), List.getElem?_zipWith, e1, List.getElem?_eq_getElem (by rw [h.ld]; exact hj)]
    rfl
  bb := fun _ e => e
  bh := h.al
  tr := h.al
  ln := by
    unfold ini L2.start
    rw [List.length_append, List.length_append, List.length_zipWith, List.length_replicate, List.length_replicate, List.length_map, h.lv, h.ld]
    omega
  sl := fun j x e => by
    rcases ini_get h.ld e with ⟨k, d, e1, e2, rfl⟩ | rfl
    · have hj : j < vs.length := by rw [h.lv]; exact (List.getElem?_eq_some_iff.mp e1).1
      have ev : vs[j]? = some vs[j] := List.getElem?_eq_getElem hj
      have ha := h.ar j k _ d e1 ev e2
      have es : (L2.start N vs)[j]?.bind id = some vs[j] := bind_id (start_get ev)
      rw [es]
      cases k with
      | v => exact ⟨_, rfl, ha⟩
      | i =>
        obtain ⟨a, o, q, h1, c⟩ := ha
        exact ⟨a, o, by rw [q], by show cOf ks vs j = some a; unfold cOf; rw [e1, ev, q], h1, c⟩
      | b => exact ⟨_, rfl, ha⟩
    · trivial
  ds := fun j k x y a ne e1 e2 => by
    rcases ini_get h.ld e1 with ⟨k', d, _, _, q⟩ | q
    · cases k' <;> cases q
    · cases q
theorem outs_get {ρ : Env'} {j : Nat} {x : Sl} (hj : j < ks.length) (e : ρ[j]? = some x) : (outsD ks ρ)[j]? = some (slotD x) := by
  unfold outsD
  rw [List.getElem?_map, List.getElem?_take, if_pos hj, e]
  rfl
/-- from a body's mirror to the def's promise -/
theorem body_ok {rn rs : Bool} {m : MS} {t : TS} {N : List Str} {Q : VK} (hN : ks.length ≤ N.length) (E' : XK) (hS : ∀ H0 C B0, SS ⟨K, ca, H0, C, B0, E'⟩ t m) (hE : rs = true → E' = E)
    (h : spM K ca ks rn rs (runM rn ks (N.length - ks.length) m) vs H Q E) : t { nx := fun _ H' => Q .non H', rt := Q } (L2.start N vs) H := by
  obtain ⟨B0, ds, ha, hm⟩ := h
  have I := ha.iv hN E'
  refine hS H (cOf ks vs) B0 B0 _ _ H _ I ?_
  unfold runM at hm
  have outs : ∀ {ρ' : Env'} {σ' B' H'} (B1 : Addr → Bool), Iv ⟨K, ca, H, cOf ks vs, B0, E'⟩ B' ρ' σ' H' → (∀ x, B1 x = true → B' x = true) → (∀ j b, cOf ks vs j = some b → ∃ d o, (outsD ks ρ')[j]? = some d ∧ H' b = some o ∧ Ct K ca (mask H' B1) o d) := fun {ρ' σ' B' H'} B1 I' s' j b e => by
    obtain ⟨d, hd⟩ := I'.ck j b e
    obtain ⟨a, o, hw, h1, h2, c⟩ := I'.sl j _ hd
    have h1 : cOf ks vs j = some a := h1
    rw [e] at h1; cases h1
    exact ⟨d, o, outs_get (List.getElem?_eq_some_iff.mp (cOf_some e).1).1 hd, h2, c.up (mask_sub fun x hx => s' x hx)⟩
  cases em : m (ini ks ds (N.length - ks.length)) with
  | no => rw [em] at hm; exact hm
  | bk ρ' => rw [em] at hm; exact hm.elim
  | ct ρ' => rw [em] at hm; exact hm.elim
  | er c fs =>
    rw [em] at hm
    obtain ⟨h1, h2⟩ := hm
    have := hE h1
    subst this
    exact h2
  | nx ρ' =>
    rw [em] at hm
    intro σ' B' H' I' s'
    by_cases hr : rn = true
    · simp only [if_pos hr] at hm
    · simp only [if_neg hr] at hm
      have : rn = false := by simpa using hr
      subst this
      exact hm .non H' B0 I'.fr (outs B0 I' fun x hx => I'.bb x hx) ⟨rfl, .non⟩
  | rt nw d ρ' =>
    rw [em] at hm
    by_cases hr : rn = true ∧ nw = false
    · simp only [if_pos hr] at hm
    · simp only [if_neg hr] at hm
      cases nw with
      | false =>
        intro v σ' B' H' I' s' r'
        have : rn = false := by cases rn <;> simp_all
        subst this
        exact hm v H' B0 I'.fr (outs B0 I' fun x hx => I'.bb x hx) ⟨rfl, r'.up (mask_sub fun x hx => I'.bb x hx)⟩
      | true =>
        intro v σ' B' H' I' s' r'
        obtain ⟨p, o, rfl, h0, hb, f, ep, c⟩ := r'
        have hp0 : B0 p = false := I'.b0 h0
        cases rn with
        | false =>
          refine hm (.ref p) H' B0 I'.fr (outs B0 I' fun x hx => I'.bb x hx) ⟨rfl, ?_⟩
          have c' := c.up (mask_sub (B' := B0) fun x hx => I'.bb x hx)
          exact c'.rep SameH.rfl (mask_get hp0 ep)
        | true =>
          have sub : ∀ x, addB B0 p x = true → B' x = true := fun x hx => by
            by_cases q : x = p
            · rw [q]; exact hb
            · rw [addB_ne q] at hx; exact I'.bb x hx
          exact hm (.ref p) H' (addB B0 p) I'.fr (outs _ I' sub) ⟨p, o, rfl, h0, ep, rfl, c.up (mask_sub sub)⟩
end
/-! calls -/
def argD : Kd → Pl → Env' → Option D
  | .v, .v d, _ => some d
  | .i, .n d, _ => some d
  | .i, .s i, ρ => slotMut ρ i
  | .b, .v d, _ => some d
  | .b, .s i, ρ => (ρ[i]?).bind Sl.d
  | _, _, _ => none
def argsD : List Kd → List Pl → Env' → Option (List D)
  | [], [], _ => some []
  | k :: ks, p :: ps, ρ => (argD k p ρ).bind fun d => (argsD ks ps ρ).bind fun ds => some (d :: ds)
  | _, _, _ => none
def clash (k : Kd) (p : Pl) (k' : Kd) (p' : Pl) : Bool := match k, p, k', p' with
  | .i, .s i, .i, .s i' => i == i'
  | .i, .s i, .b, .s i' => i == i'
  | _, _, _, _ => false
/-- no object is handed over twice where it may be changed -/
def okIo (ks : List Kd) (ps : List Pl) : Bool := (List.range ks.length).all fun j => (List.range ks.length).all fun l => j == l || match ks[j]?, ps[j]?, ks[l]?, ps[l]? with
  | some k, some p, some k', some p' => !clash k p k' p'
  | _, _, _, _ => true
def isIo (i : Nat) : Kd × Pl → Bool
  | (.i, .s i') => i' == i
  | _ => false
def putIo (ks : List Kd) (ps : List Pl) (os : List D) (ρ : Env') : Env' := ρ.mapIdx fun i s => match (ks.zip ps).findIdx? (isIo i) with
  | some j => match os[j]? with
    | some d => s.put d
    | none => s
  | none => s
def mCall (ks : List Kd) (m : Mr) (fa : MM (List Pl)) : MM D := fun ρ => (fa ρ).bind fun x => (Rs.of (argsD ks x.1 x.2)).bind fun ds => if okIo ks x.1 = true then match m ds with
    | .ok r => .ok (r.1, putIo ks x.1 r.2 x.2)
    | _ => .no
  else .no
/-- .. of a def that may raise -/
def mCallX (ks : List Kd) (m : Mr) (fa : MM (List Pl)) : MM D := fun ρ => (fa ρ).bind fun x => (Rs.of (argsD ks x.1 x.2)).bind fun ds => if okIo ks x.1 = true then match m ds with
    | .ok r => .ok (r.1, putIo ks x.1 r.2 x.2)
    | .er c fs => .er c fs
    | .no => .no
  else .no
section
variable {N : Cn} {B B' B1 B2 : Addr → Bool} {ρ ρ' ρ1 ρ2 : Env'} {σ σ' : L2.St} {H H' H1 H2 : Hp} {ks : List Kd} {vs : List V} {ps : List Pl} {ds : List D}
theorem PlsOk.len (h : PlsOk N σ B ρ H vs ps) : vs.length = ps.length := by
  induction h with
  | nil => rfl
  | cons _ _ ih => simp [ih]
theorem PlsOk.get (h : PlsOk N σ B ρ H vs ps) : ∀ {j : Nat} {p : Pl}, ps[j]? = some p → ∃ v, vs[j]? = some v ∧ PlOk N σ B ρ H v p := by
  induction h with
  | nil => intro j p e; simp at e
  | @cons v vs p ps h _ ih =>
    intro j q e
    cases j with
    | zero => simp at e; subst e; exact ⟨v, rfl, h⟩
    | succ j => simpa using ih (by simpa using e)
theorem argsD_len : ∀ {ks : List Kd} {ps : List Pl} {ds : List D}, argsD ks ps ρ = some ds → ps.length = ks.length ∧ ds.length = ks.length
  | [], [], _, h => by cases h; exact ⟨rfl, rfl⟩
  | [], _ :: _, _, h => by cases h
  | _ :: _, [], _, h => by cases h
  | k :: ks, p :: ps, ds, h => by
    obtain ⟨d, e1, e2⟩ := Option.bind_eq_some_iff.mp h
    obtain ⟨es, e3, e4⟩ := Option.bind_eq_some_iff.mp e2
    cases e4
    obtain ⟨a, b⟩ := argsD_len e3
    exact ⟨by simp [a], by simp [b]⟩
theorem argsD_get : ∀ {ks : List Kd} {ps : List Pl} {ds : List D}, argsD ks ps ρ = some ds → ∀ {j : Nat} {k : Kd} {p : Pl}, ks[j]? = some k → ps[j]? = some p → ∃ d, ds[j]? = some d ∧ argD k p ρ = some d
  | [], [], _, h, _, _, _, e, _ => by simp at e
  | [], _ :: _, _, h, _, _, _, _, _ => by cases h
  | _ :: _, [], _, h, _, _, _, _, _ => by cases h
  | k :: ks, p :: ps, ds, h, j, k', p', e, e' => by
    obtain ⟨d, e1, e2⟩ := Option.bind_eq_some_iff.mp h
    obtain ⟨es, e3, e4⟩ := Option.bind_eq_some_iff.mp e2
    cases e4
    cases j with
    | zero => simp at e e'; subst e e'; exact ⟨d, rfl, e1⟩
    | succ j => simpa using argsD_get e3 (by simpa using e) (by simpa using e')
theorem okIo_ne (h : okIo ks ps = true) {j l : Nat} {k k' : Kd} {p p' : Pl} (ne : j ≠ l) (e1 : ks[j]? = some k) (e2 : ps[j]? = some p) (e3 : ks[l]? = some k') (e4 : ps[l]? = some p') : clash k p k' p' = false := by
  unfold okIo at h
  rw [List.all_eq_true] at h
  have h1 := h j (List.mem_range.mpr (List.getElem?_eq_some_iff.mp e1).1)
  rw [List.all_eq_true] at h1
  have h2 := h1 l (List.mem_range.mpr (List.getElem?_eq_some_iff.mp e3).1)
  rw [e1, e2, e3, e4] at h2
  simpa [ne] using h2
theorem nws_mem : ∀ {vs : List V} {ps : List Pl} {j : Nat} {v : V} {d : D}, vs[j]? = some v → ps[j]? = some (Pl.n d) → v ∈ nws vs ps
  | [], _, _, _, _, h, _ => by simp at h
  | _ :: _, [], _, _, _, _, h => by simp at h
  | x :: vs, q :: ps, 0, v, d, h, h' => by simp at h h'; subst h h'; exact List.mem_cons_self
  | x :: vs, q :: ps, j + 1, v, d, h, h' => by
    have := nws_mem (vs := vs) (ps := ps) (j := j) (v := v) (d := d) (by simpa using h) (by simpa using h')
    cases q with
    | n d => exact List.mem_cons_of_mem _ this
    | v d => exact this
    | s k => exact this
theorem nws_get : ∀ {vs : List V} {ps : List Pl}, (nws vs ps).Nodup → ∀ {j l : Nat} {v w : V} {d e : D}, j ≠ l → vs[j]? = some v → ps[j]? = some (.n d) → vs[l]? = some w → ps[l]? = some (.n e) → v ≠ w
  | [], _, _, _, _, _, _, _, _, _, h, _, _, _ => by simp at h
  | _ :: _, [], _, _, _, _, _, _, _, _, _, h, _, _ => by simp at h
  | x :: vs, q :: ps, nd, j, l, v, w, d, e, ne, h1, h2, h3, h4 => by
    have mem : ∀ {j : Nat} {v : V} {d : D} {vs : List V} {ps : List Pl}, vs[j]? = some v → ps[j]? = some (Pl.n d) → v ∈ nws vs ps := by
      intro j v d vs
      induction vs generalizing j with
      | nil => intro ps h; simp at h
      | cons x vs ih =>
        intro ps h h'
        cases ps with
        | nil => simp at h'
        | cons q ps =>
          cases j with
          | zero => simp at h h'; subst h h'; exact List.mem_cons_self
          | succ j =>
            have := ih (by simpa using h) (by simpa using h')
            cases q with
            | n d => exact List.mem_cons_of_mem _ this
            | v d => exact this
            | s k => exact this
    cases j with
    | zero =>
      cases l with
      | zero => exact absurd rfl ne
      | succ l =>
        simp at h1 h2; subst h1 h2
        have hm := mem (by simpa using h3) (by simpa using h4)
        rintro rfl
        exact (List.nodup_cons.mp nd).1 hm
    | succ j =>
      cases l with
      | zero =>
        simp at h3 h4; subst h3 h4
        have hm := mem (by simpa using h1) (by simpa using h2)
        rintro rfl
        exact (List.nodup_cons.mp nd).1 hm
      | succ l =>
        have g1 : vs[j]? = some v := by simpa using h1
        have g2 : ps[j]? = some (.n d) := by simpa using h2
        have g3 : vs[l]? = some w := by simpa using h3
        have g4 : ps[l]? = some (.n e) := by simpa using h4
        exact nws_get (nws_tl nd) (fun z => ne (by rw [z])) g1 g2 g3 g4
/-- an object that is handed over to be changed: where it stands -/
theorem io_at (I : Iv N B ρ σ H) (hp : PlsOk N σ B ρ H vs ps) (ha : argsD ks ps ρ = some ds) {j : Nat} {a : Addr} (hc : cOf ks vs j = some a) :
    ∃ p d o, ks[j]? = some .i ∧ ps[j]? = some p ∧ ds[j]? = some d ∧ vs[j]? = some (.ref a) ∧ B a = true ∧ H a = some o ∧ Ct N.K N.ca (mask H B) o d ∧
      ((∃ i, p = .s i ∧ slotMut ρ i = some d ∧ σ[i]? = some (some (.ref a)) ∧ (ρ[i]? = some (.o d) ∧ N.B0 a = false ∧ N.H0 a = none ∨ ρ[i]? = some (.i d) ∧ N.C i = some a)) ∨ (p = .n d ∧ N.H0 a = none ∧ Free ρ σ a)) := by
  obtain ⟨e1, e2⟩ := cOf_some hc
  have hj : j < ps.length := by rw [(argsD_len ha).1]; exact (List.getElem?_eq_some_iff.mp e1).1
  have ep : ps[j]? = some ps[j] := List.getElem?_eq_getElem hj
  obtain ⟨d, ed, ea⟩ := argsD_get ha e1 ep
  obtain ⟨v, ev, hv⟩ := hp.get ep
  rw [e2] at ev; cases ev
  generalize ps[j] = p at ep ea hv
  cases p with
  | v d' => cases ea
  | s i =>
    have ea : slotMut ρ i = some d := ea
    obtain ⟨b, o, hσ, hB, hH, c, k⟩ := I.mutAt ea
    have hv : σ[i]? = some (some (V.ref a)) := hv
    rw [hσ] at hv; cases hv
    exact ⟨.s i, d, o, e1, ep, ed, e2, hB, hH, c, .inl ⟨i, rfl, ea, hσ, k⟩⟩
  | n d' =>
    cases ea
    obtain ⟨b, o, q, h0, hb, f, eb, c⟩ := hv
    cases q
    exact ⟨.n d, d, o, e1, ep, ed, e2, hb, eb, c, .inr ⟨rfl, h0, f⟩⟩
theorem io_spa (I : Iv N B ρ σ H) (hp : PlsOk N σ B ρ H vs ps) (nd : (nws vs ps).Nodup) (ha : argsD ks ps ρ = some ds) (ok : okIo ks ps = true) : SpA N.K N.ca ks vs H B ds where
  lv := by rw [hp.len]; exact (argsD_len ha).1
  ld := (argsD_len ha).2
  al := I.tr
  cb := fun j b h => by
    obtain ⟨p, d, o, _, _, _, _, hB, _⟩ := io_at I hp ha h
    exact hB
  ci := fun j l b h h' => by
    apply Decidable.byContradiction
    intro ne
    obtain ⟨p, d, o, k1, p1, _, v1, _, _, _, c1⟩ := io_at I hp ha h
    obtain ⟨p', d', o', k2, p2, _, v2, _, _, _, c2⟩ := io_at I hp ha h'
    have cl := okIo_ne ok ne k1 p1 k2 p2
    rcases c1 with ⟨i, rfl, m1, s1, t1⟩ | ⟨rfl, z1, f1⟩ <;> rcases c2 with ⟨i', rfl, m2, s2, t2⟩ | ⟨rfl, z2, f2⟩
    · have hne : i ≠ i' := by simpa [clash] using cl
      exact I.apart hne m1 m2 s1 s2
    · rcases t1 with ⟨r, _, _⟩ | ⟨_, r⟩
      · exact f2 i d r s1
      · exact I.notC z2 i r
    · rcases t2 with ⟨r, _, _⟩ | ⟨_, r⟩
      · exact f1 i' d' r s2
      · exact I.notC z1 i' r
    · exact nws_get nd ne v1 p1 v2 p2 rfl
  ar := fun j k v d e1 e2 e3 => by
    have hj : j < ps.length := by rw [(argsD_len ha).1]; exact (List.getElem?_eq_some_iff.mp e1).1
    have ep : ps[j]? = some ps[j] := List.getElem?_eq_getElem hj
    obtain ⟨d', ed, ea⟩ := argsD_get ha e1 ep
    rw [e3] at ed; cases ed
    obtain ⟨v', ev, hv⟩ := hp.get ep
    rw [e2] at ev; cases ev
    cases k with
    | v =>
      generalize ps[j] = p at ep ea hv
      cases p with
      | v d' => cases ea; exact hv
      | s i => cases ea
      | n d' => cases ea
    | i =>
      generalize ps[j] = p at ep ea hv
      cases p with
      | v d' => cases ea
      | s i =>
        obtain ⟨b, o, hσ, hB, hH, c, _⟩ := I.mutAt (show slotMut ρ i = some d from ea)
        have hv : σ[i]? = some (some v) := hv
        rw [hσ] at hv; cases hv
        exact ⟨b, o, rfl, hH, c⟩
      | n d' =>
        cases ea
        obtain ⟨b, o, rfl, h0, hb, f, eb, c⟩ := hv
        exact ⟨b, o, rfl, eb, c⟩
    | b =>
      generalize ps[j] = p at ep ea hv
      cases p with
      | n d' => cases ea
      | v d' => cases ea; exact .inl hv
      | s i =>
        have ea : (ρ[i]?).bind Sl.d = some d := ea
        have hv : σ[i]? = some (some v) := hv
        cases er : ρ[i]? with
        | none => rw [er] at ea; cases ea
        | some x =>
          rw [er] at ea
          have hs := I.slot er
          rw [bind_id hv] at hs
          have other : ∀ a, v = .ref a → (x = .o d ∨ x = .i d) → ∀ l, cOf ks vs l ≠ some a := fun a hva hx l hc => by
            obtain ⟨p', d', o', k2, p2, _, v2, _, _, _, c2⟩ := io_at I hp ha hc
            have hm : slotMut ρ i = some d := by unfold slotMut; rw [er]; rcases hx with rfl | rfl <;> rfl
            rcases c2 with ⟨i', rfl, m2, s2, t2⟩ | ⟨rfl, z2, f2⟩
            · have nj : l ≠ j := fun z => by subst z; rw [e1] at k2; cases k2
              have cl := okIo_ne ok nj k2 p2 e1 ep
              have hne : i' ≠ i := by simpa [clash] using cl
              exact I.apart hne m2 hm s2 (by rw [hv, hva])
            · obtain ⟨b, _, hσ, _, _, _, k⟩ := I.mutAt hm
              rw [hv, hva] at hσ; cases hσ
              rcases k with ⟨r, _, _⟩ | ⟨_, r⟩
              · exact f2 i d r (by rw [hv, hva])
              · exact I.notC z2 i r
          cases x with
          | e => cases ea
          | v d' => cases ea; obtain ⟨w, q, r⟩ := hs; cases q; exact .inl r
          | o d' =>
            cases ea
            obtain ⟨a, o, q, h1, h2, h3, h4, c⟩ := hs
            cases q
            exact .inr ⟨a, o, rfl, h1, other a rfl (.inl rfl), h4, c⟩
          | i d' =>
            cases ea
            obtain ⟨a, o, q, h1, h2, c⟩ := hs
            cases q
            exact .inr ⟨a, o, rfl, I.bb a (I.cb i a h1), other a rfl (.inr rfl), h2, c⟩
          | b d' =>
            cases ea
            obtain ⟨w, q, r | ⟨a, o, g0, g1, g2, g3, c⟩⟩ := hs
            · cases q; exact .inl r
            · cases q
              refine .inr ⟨a, o, g0, I.bb a g1, fun l hc => ?_, g3, c⟩
              obtain ⟨p', d', o', k2, p2, _, v2, _, _, _, c2⟩ := io_at I hp ha hc
              rcases c2 with ⟨i', rfl, m2, s2, ⟨_, n2, _⟩ | ⟨_, r2⟩⟩ | ⟨rfl, z2, f2⟩
              · rw [g1] at n2; cases n2
              · exact g2 i' r2
              · exact I.bh a g1 z2
theorem put_tag {x : Sl} {d y : D} (h : x.put d = .o y) : ∃ z, x = .o z := by
  cases x <;> first | (cases h; done) | exact ⟨_, rfl⟩
theorem io_pos {i j : Nat} (h : (ks.zip ps).findIdx? (isIo i) = some j) : ks[j]? = some .i ∧ ps[j]? = some (.s i) := by
  rw [List.findIdx?_eq_some_iff_getElem] at h
  obtain ⟨hj, hp, _⟩ := h
  rw [List.getElem_zip] at hp
  have h1 : j < ks.length := by rw [List.length_zip] at hj; omega
  have h2 : j < ps.length := by rw [List.length_zip] at hj; omega
  rw [List.getElem?_eq_getElem h1, List.getElem?_eq_getElem h2]
  generalize ks[j] = k at hp
  generalize ps[j] = p at hp
  cases k <;> cases p <;> first | (cases hp; done) | skip
  rename_i i'
  have : i' = i := by simpa [isIo] using hp
  subst this
  exact ⟨rfl, rfl⟩
theorem io_none {i : Nat} (h : (ks.zip ps).findIdx? (isIo i) = none) {j : Nat} (e1 : ks[j]? = some .i) (e2 : ps[j]? = some (.s i)) : False := by
  rw [List.findIdx?_eq_none_iff] at h
  have hm : (Kd.i, Pl.s i) ∈ ks.zip ps := by
    rw [List.mem_iff_getElem?]
    exact ⟨j, by rw [List.getElem?_zip_eq_some]; exact ⟨e1, e2⟩⟩
  have := h _ hm
  simp [isIo] at this
theorem putIo_get {os : List D} {i : Nat} {x : Sl} (e : (putIo ks ps os ρ)[i]? = some x) : ∃ y, ρ[i]? = some y ∧ ((∃ (j : Nat) (d : D), ks[j]? = some Kd.i ∧ ps[j]? = some (Pl.s i) ∧ os[j]? = some d ∧ x = y.put d) ∨ (x = y ∧ ((∀ j : Nat, ks[j]? = some Kd.i → ps[j]? = some (Pl.s i) → False) ∨ ∃ j : Nat, ks[j]? = some Kd.i ∧ ps[j]? = some (Pl.s i) ∧ os[j]? = none))) := by
  unfold putIo at e
  rw [List.getElem?_mapIdx, Option.map_eq_some_iff] at e
  obtain ⟨y, e1, e2⟩ := e
  refine ⟨y, e1, ?_⟩
  cases h : (ks.zip ps).findIdx? (isIo i) with
  | none => rw [h] at e2; exact .inr ⟨e2.symm, .inl fun j a b => io_none h a b⟩
  | some j =>
    rw [h] at e2
    obtain ⟨k1, k2⟩ := io_pos h
    cases ho : os[j]? with
    | none => simp only [ho] at e2; exact .inr ⟨e2.symm, .inr ⟨j, k1, k2, ho⟩⟩
    | some d => simp only [ho] at e2; exact .inl ⟨j, d, k1, k2, ho, e2.symm⟩
/-- behind a call -/
theorem io_after (I : Iv N B ρ σ H) (hp : PlsOk N σ B ρ H vs ps) (ha : argsD ks ps ρ = some ds) {os : List D} (hsub : ∀ a, B a = true → B1 a = true) (htr : ∀ b, B1 b = true → B b = false → H' b ≠ none) (hmk : SameH (mask H B) (mask H' B) → SameH (mask H B) (mask H' B1))
    (hf : ∀ b o, (∀ j, cOf ks vs j ≠ some b) → H b = some o → H' b = some o) (ho : ∀ j b, cOf ks vs j = some b → ∃ d o, os[j]? = some d ∧ H' b = some o ∧ Ct N.K N.ca (mask H' B1) o d) :
    Iv N B1 (putIo ks ps os ρ) σ H' ∧ SameH (mask H B) (mask H' B1) ∧ ∀ p, Free ρ σ p → Free (putIo ks ps os ρ) σ p := by
  have cB : ∀ {j b}, cOf ks vs j = some b → B b = true := fun h => by obtain ⟨p, d, o, _, _, _, _, hB, _⟩ := io_at I hp ha h; exact hB
  have sm : SameH (mask H B) (mask H' B1) := hmk (mask_of fun a o hb e => hf a o (fun j hc => by rw [cB hc] at hb; cases hb) e)
  have notC : ∀ {b}, (∀ j, N.C j ≠ some b) → N.H0 b ≠ none → ∀ j, cOf ks vs j ≠ some b := fun {b} h1 h2 j hc => by
    obtain ⟨p, d, o, _, _, _, _, _, _, _, c⟩ := io_at I hp ha hc
    rcases c with ⟨i, _, _, _, ⟨_, _, r⟩ | ⟨_, r⟩⟩ | ⟨_, r, _⟩
    · exact h2 r
    · exact h1 i r
    · exact h2 r
  have fr : ∀ p, Free ρ σ p → Free (putIo ks ps os ρ) σ p := fun p f j d e => by
    obtain ⟨y, e1, h⟩ := putIo_get e
    rcases h with ⟨l, d', _, _, _, q⟩ | ⟨rfl, _⟩
    · obtain ⟨z, rfl⟩ := put_tag q.symm; exact f j z e1
    · exact f j d e1
  have cAt : ∀ {i j : Nat}, ks[j]? = some .i → ps[j]? = some (.s i) → ∃ a, σ[i]? = some (some (.ref a)) ∧ cOf ks vs j = some a ∧ ∃ d, slotMut ρ i = some d := fun {i j} k1 k2 => by
    obtain ⟨d, _, ea⟩ := argsD_get ha k1 k2
    obtain ⟨v, ev, hv⟩ := hp.get k2
    obtain ⟨b, o, hσ, _⟩ := I.mutAt (show slotMut ρ i = some d from ea)
    have hv : σ[i]? = some (some v) := hv
    rw [hσ] at hv; cases hv
    exact ⟨b, hσ, by unfold cOf; rw [k1, ev], d, ea⟩
  refine ⟨⟨fun b o hc e => hf b o (notC hc (by rw [e]; intro z; cases z)) (I.fr b o hc e), I.cb, I.ci, fun j b hb => ?_, fun b hb => hsub b (I.bb b hb), I.bh, fun b hb => ?_, by unfold putIo; rw [List.length_mapIdx]; exact I.ln, fun i x e => ?_, fun j k x y a ne ej ek sj sk => ?_⟩, sm, fr⟩
  · obtain ⟨d, hd⟩ := I.ck j b hb
    have hl : j < (putIo ks ps os ρ).length := by unfold putIo; rw [List.length_mapIdx]; exact (List.getElem?_eq_some_iff.mp hd).1
    have e := List.getElem?_eq_getElem hl
    obtain ⟨y, e1, h⟩ := putIo_get e
    rw [hd] at e1; cases e1
    rcases h with ⟨l, d', _, _, _, q⟩ | ⟨q, _⟩
    · exact ⟨d', by rw [e, q]; rfl⟩
    · exact ⟨d, by rw [e, q]⟩
  · by_cases q : ∃ j, cOf ks vs j = some b
    · obtain ⟨j, hj⟩ := q
      obtain ⟨d, o, _, h2, _⟩ := ho j b hj
      rw [h2]; intro z; cases z
    · by_cases hB : B b = true
      · cases e : H b with
        | none => exact absurd e (I.tr b hB)
        | some o =>
          rw [hf b o (fun j hj => q ⟨j, hj⟩) e]; intro z; cases z
      · exact htr b hb (by simpa using hB)
  · obtain ⟨y, e1, h⟩ := putIo_get e
    have hs := I.slot e1
    rcases h with ⟨j, d', k1, k2, k3, rfl⟩ | ⟨rfl, h⟩
    · obtain ⟨a, hσ, hc, d, hm⟩ := cAt k1 k2
      obtain ⟨d2, o2, q1, q2, q3⟩ := ho j a hc
      rw [k3] at q1; cases q1
      obtain ⟨z, ez, hz⟩ := slotMut_get hm
      rw [e1] at ez; cases ez
      rcases mut_cases hz with rfl | rfl
      · obtain ⟨a', o, hw, h1, h2, h3, h4, c⟩ := hs
        rw [bind_id hσ] at hw; cases hw
        exact ⟨a, o2, bind_id hσ, hsub a h1, h2, h3, q2, q3⟩
      · obtain ⟨a', o, hw, h1, h2, c⟩ := hs
        rw [bind_id hσ] at hw; cases hw
        exact ⟨a, o2, bind_id hσ, h1, q2, q3⟩
    · have out : ∀ {d a}, slotMut ρ i = some d → σ[i]? = some (some (.ref a)) → ∀ j, cOf ks vs j ≠ some a := fun {d a} hm hσ j hc => by
        obtain ⟨p, d2, o, k1, p1, _, v1, _, _, _, c⟩ := io_at I hp ha hc
        rcases c with ⟨i', rfl, m2, s2, t2⟩ | ⟨rfl, z2, f2⟩
        · by_cases q : i' = i
          · subst q
            rcases h with h | ⟨j', h1, h2, h3⟩
            · exact h j k1 p1
            · obtain ⟨a', hσ', hc', _⟩ := cAt h1 h2
              obtain ⟨d3, _, q1, _⟩ := ho j' a' hc'
              rw [h3] at q1; cases q1
          · exact I.apart q m2 hm s2 hσ
        · obtain ⟨b, _, hσ', _, _, _, k⟩ := I.mutAt hm
          rw [hσ] at hσ'; cases hσ'
          rcases k with ⟨r, _, _⟩ | ⟨_, r⟩
          · exact f2 i d r hσ
          · exact I.notC z2 i r
      cases x with
      | e => trivial
      | v d => obtain ⟨v, q, r⟩ := hs; exact ⟨v, q, r.up sm⟩
      | o d =>
        obtain ⟨a, o, hw, h1, h2, h3, h4, c⟩ := hs
        exact ⟨a, o, hw, hsub a h1, h2, h3, hf a o (out (show slotMut ρ i = some d by unfold slotMut; rw [e1]; rfl) (of_bind hw)) h4, c.up sm⟩
      | i d =>
        obtain ⟨a, o, hw, h1, h2, c⟩ := hs
        exact ⟨a, o, hw, h1, hf a o (out (show slotMut ρ i = some d by unfold slotMut; rw [e1]; rfl) (of_bind hw)) h2, c.up sm⟩
      | b d =>
        obtain ⟨v, q, r | ⟨a, o, g0, g1, g2, g3, c⟩⟩ := hs
        · exact ⟨v, q, .inl (r.up sm)⟩
        · exact ⟨v, q, .inr ⟨a, o, g0, g1, g2, hf a o (notC g2 (I.bh a g1)) g3, c.up sm⟩⟩
  · have back : ∀ {l : Nat} {x : D}, (putIo ks ps os ρ)[l]? = some (Sl.o x) → ∃ w, ρ[l]? = some (Sl.o w) := fun {l x} e => by
      obtain ⟨y, e1, h⟩ := putIo_get e
      rcases h with ⟨_, d', _, _, _, q⟩ | ⟨rfl, _⟩
      · obtain ⟨z, rfl⟩ := put_tag q.symm; exact ⟨z, e1⟩
      · exact ⟨x, e1⟩
    obtain ⟨w1, q1⟩ := back ej
    obtain ⟨w2, q2⟩ := back ek
    exact I.ds j k w1 w2 a ne q1 q2 sj sk
end

section
variable {N : Cn} {B B' B1 B2 : Addr → Bool} {ρ ρ' ρ1 ρ2 : Env'} {σ σ' : L2.St} {H H' H1 H2 : Hp} {ks : List Kd} {ta : TA} {fa : MM (List Pl)} {m : Mr} {E' : XK}
/-- the part of a call that is the same whatever it gives -/
theorem call_core {vs : List V} {ps : List Pl} {ds os : List D} (I1 : Iv N B1 ρ1 σ H1) (s1 : Stp N σ B ρ H B1 ρ1 H1) (r1 : rA N σ B ρ H B1 ρ1 H1 vs ps) (ea : argsD ks ps ρ1 = some ds) (hsub : ∀ a, B1 a = true → B2 a = true) (htr : ∀ b, B2 b = true → B1 b = false → H' b ≠ none)
    (hmk : SameH (mask H1 B1) (mask H' B1) → SameH (mask H1 B1) (mask H' B2)) (hf : ∀ b o, (∀ j, cOf ks vs j ≠ some b) → H1 b = some o → H' b = some o) (ho : ∀ j b, cOf ks vs j = some b → ∃ d o, os[j]? = some d ∧ H' b = some o ∧ Ct N.K N.ca (mask H' B2) o d) :
    Iv N B2 (putIo ks ps os ρ1) σ H' ∧ Stp N σ B ρ H B2 (putIo ks ps os ρ1) H' ∧ ∀ p, Free ρ1 σ p → Free (putIo ks ps os ρ1) σ p := by
  obtain ⟨I2, sm, fr⟩ := io_after I1 r1.1 ea hsub htr hmk hf ho
  refine ⟨I2, ⟨s1.sm.tr sm, fun p o h1 h2 hc e => ?_⟩, fr⟩
  obtain ⟨e1, g1, f1⟩ := s1.tm p o h1 h2 hc e
  refine ⟨hf p o (fun j hj => ?_) e1, hsub p g1, fr p f1⟩
  obtain ⟨q, d, o', k1, p1, _, v1, _, _, _, c⟩ := io_at I1 r1.1 ea hj
  rcases c with ⟨i, rfl, _, s, ⟨r, _, _⟩ | ⟨_, r⟩⟩ | ⟨rfl, _, _⟩
  · exact f1 i d r s
  · exact hc i r
  · exact r1.2.2 _ (nws_mem v1 p1) p o h1 h2 hc e rfl
theorem se_call (ha : SA N ta fa) : SE N (tCall (spM N.K N.ca ks false false m) [] E' ta) (mCall ks m fa) := by
  intro B ρ σ H Q I hp
  unfold mCall at hp
  refine ha B ρ σ H _ I ?_
  cases e1 : fa ρ with
  | no => rw [e1] at hp; exact hp
  | er c fs => rw [e1] at hp; exact hp
  | ok x =>
    rw [e1] at hp
    intro vs B1 H1 I1 s1 r1
    simp only [Rs.bind] at hp
    cases ea : argsD ks x.1 x.2 with
    | none => rw [ea] at hp; exact hp.elim
    | some ds =>
      rw [ea] at hp
      simp only [Rs.of] at hp
      obtain ⟨ok, hp⟩ := hp.ofOk
      cases em : m ds with
      | no => rw [em] at hp; exact hp.elim
      | er c fs => rw [em] at hp; exact hp.elim
      | ok y =>
        rw [em] at hp
        show spM N.K N.ca ks false false m (vs ++ []) H1 Q E'
        rw [List.append_nil]
        refine ⟨B1, ds, io_spa I1 r1.1 r1.2.1 ea ok, ?_⟩
        rw [em]
        rintro v H' B2 hf ho ⟨rfl, hr⟩
        obtain ⟨I2, s2, _⟩ := call_core I1 s1 r1 ea (fun _ h => h) (fun b h h' => by rw [h] at h'; cases h') id hf ho
        exact hp v _ H' I2 s2 hr
theorem sn_call (ha : SA N ta fa) : SN N (tCall (spM N.K N.ca ks true false m) [] E' ta) (mCall ks m fa) := by
  intro B ρ σ H Q I hp
  unfold mCall at hp
  refine ha B ρ σ H _ I ?_
  cases e1 : fa ρ with
  | no => rw [e1] at hp; exact hp
  | er c fs => rw [e1] at hp; exact hp
  | ok x =>
    rw [e1] at hp
    intro vs B1 H1 I1 s1 r1
    simp only [Rs.bind] at hp
    cases ea : argsD ks x.1 x.2 with
    | none => rw [ea] at hp; exact hp.elim
    | some ds =>
      rw [ea] at hp
      simp only [Rs.of] at hp
      obtain ⟨ok, hp⟩ := hp.ofOk
      cases em : m ds with
      | no => rw [em] at hp; exact hp.elim
      | er c fs => rw [em] at hp; exact hp.elim
      | ok y =>
        rw [em] at hp
        show spM N.K N.ca ks true false m (vs ++ []) H1 Q E'
        rw [List.append_nil]
        refine ⟨B1, ds, io_spa I1 r1.1 r1.2.1 ea ok, ?_⟩
        rw [em]
        rintro v H' B2 hf ho ⟨p, o, rfl, hp0, ho', rfl, hc⟩
        have nC : ∀ j, cOf ks vs j ≠ some p := fun j hj => by
          obtain ⟨_, _, _, _, _, _, _, _, hh, _⟩ := io_at I1 r1.1 ea hj
          rw [hp0] at hh; cases hh
        obtain ⟨I2, s2, _⟩ := call_core I1 s1 r1 ea (fun _ h => add_of h) (fun b h h' => by
          by_cases q : b = p
          · rw [q, ho']; intro z; cases z
          · rw [addB_ne q, h'] at h; cases h) (fun s a u e => by
            have := s a u e
            have na : a ≠ p := ne_of_none (mask_le _ _ e) hp0
            unfold mask at this ⊢
            show (if addB B1 p a = true then none else H' a) = some u
            rw [addB_ne na]; exact this) hf ho
        have f2 : Free (putIo ks x.1 y.2 x.2) σ p := fun i d e z => by
          obtain ⟨w, e1, h⟩ := putIo_get e
          have : ∃ d, x.2[i]? = some (Sl.o d) := by
            rcases h with ⟨l, d', _, _, _, q⟩ | ⟨rfl, _⟩
            · obtain ⟨z, rfl⟩ := put_tag q.symm; exact ⟨z, e1⟩
            · exact ⟨d, e1⟩
          obtain ⟨d, e1⟩ := this
          exact I1.free hp0 i d e1 z
        refine hp (.ref p) _ H' I2 s2 ⟨⟨p, o, rfl, I1.no0 hp0, add_self, f2, ho', hc⟩, fun q u h1 h2 hc e z => ?_⟩
        cases z
        obtain ⟨e1, _, _⟩ := s1.tm p u h1 h2 hc e
        rw [hp0] at e1; cases e1
/-- a def that raises nothing -/
theorem calM {P : Program} {w : World} {K : PySem.W.Frag} {mg : Str → Option Value} {base : Heap} {ca : Str → Addr} {x : Str} {st : Stmt} {Nm ps : List Str} {k n : Nat} {rn : Bool} {ms : MS} (D : Dfn K mg x st ps) (S : FnScope Nm ps (defScope st)) (hk : ks.length = ps.length) (hN : Nm.length = ks.length + n)
    (hb : ∀ (f : Addr) (cdv : Value) (A : Around) (outer : List Env) (s : Shared) (H : Hp) (E : XK), Room k (A.deeper (envOfC x (defScope st) s.heap.objs.size f cdv)) →
      ∃ t, PSs (cxOf CX0 P w K mg base Nm x (defScope st) f cdv A outer s H E).nox (defBody st) t ∧ ∀ H0 C B0, SS ⟨K, ca, H0, C, B0, E0⟩ t ms) :
    Cal P w K mg base (k + 1) x (spM K ca ks rn false (runM rn ks n ms)) [] := by
  obtain rfl : n = Nm.length - ks.length := by omega
  refine cal_of D S (fun vs H Q E h => ?_) fun f cdv A outer s H vs Q E hr h => ?_
  · obtain ⟨B0, ds, ha, _⟩ := h
    rw [ha.lv, hk]
  · obtain ⟨t, h1, h2⟩ := hb f cdv A outer s H E hr
    exact ⟨t, h1, body_ok (rs := false) (by omega) E0 h2 (fun z => by cases z) h⟩
end

/-! ### M13. more operators: data, membership, texts, stores into lists -/
mutual
def toPy : D → Option PyData
  | .non => some .none
  | .bl b => some (.bool b)
  | .int i => some (.int i)
  | .str x => some (.str (S x))
  | .tup xs => (toPys xs).map .tuple
  | .tpq xs => (toPys xs).map .tuple
  | .lst xs => (toPys xs).map .list
  | .lsq xs => (toPys xs).map .list
  | .dk _ => none
  | .dt _ => none
  | .obj _ _ => none
  | .exn _ _ => none
  | .ty _ => none
def toPys : List D → Option (List PyData)
  | [] => some []
  | d :: ds => (toPy d).bind fun a => (toPys ds).map fun as => a :: as
end
section
variable {K : PySem.W.Frag} {ca : Str → Addr} {H : Hp} {B : Addr → Bool}
mutual
theorem Rep.dp : ∀ {v : V} {d : D} {a : PyData}, Rep K ca H v d → toPy d = some a → Dp K H v a
  | _, _, _, .non, e => by rw [toPy] at e; cases e; exact .non
  | _, _, _, .bl b, e => by rw [toPy] at e; cases e; exact .bl b
  | _, _, _, .int i, e => by rw [toPy] at e; cases e; exact .int i
  | _, _, _, .str x, e => by rw [toPy] at e; cases e; exact .str _
  | _, _, _, .tup h r, e => by
    rw [toPy, Option.map_eq_some_iff] at e
    obtain ⟨as, e1, rfl⟩ := e
    exact .tup (SqT.of h) (RepA.dp r e1)
  | _, _, _, .tpq h r, e => by
    rw [toPy, Option.map_eq_some_iff] at e
    obtain ⟨as, e1, rfl⟩ := e
    exact .tup h (RepA.dp r e1)
  | _, _, _, .lst h r, e => by
    rw [toPy, Option.map_eq_some_iff] at e
    obtain ⟨as, e1, rfl⟩ := e
    exact .lst (SqL.of h) (RepA.dp r e1)
  | _, _, _, .lsq h r, e => by
    rw [toPy, Option.map_eq_some_iff] at e
    obtain ⟨as, e1, rfl⟩ := e
    exact .lst h (RepA.dp r e1)
  | _, _, _, .dk _ _ _, e => by rw [toPy] at e; cases e
  | _, _, _, .dt _ _ _, e => by rw [toPy] at e; cases e
  | _, _, _, .obj _ _ _, e => by rw [toPy] at e; cases e
  | _, _, _, .exn _ _ _ _, e => by rw [toPy] at e; cases e
  | _, _, _, .exn0 _, e => by rw [toPy] at e; cases e
  | _, _, _, .ty _, e => by rw [toPy] at e; cases e
theorem RepA.dp : ∀ {vs : List V} {ds : List D} {as : List PyData}, RepA K ca H vs ds → toPys ds = some as → DpAll K H vs as
  | _, _, _, .nil, e => by rw [toPys] at e; cases e; exact .nil
  | _, _, _, .cons h r, e => by
    rw [toPys] at e
    obtain ⟨a, e1, e2⟩ := Option.bind_eq_some_iff.mp e
    rw [Option.map_eq_some_iff] at e2
    obtain ⟨as, e3, rfl⟩ := e2
    exact .cons (Rep.dp h e1) (RepA.dp r e3)
end
end
def gEqD (neg : Bool) (d e : D) : Option D := match toPy d, toPy e with
  | some a, some b => if SeqAt.shaped a = true ∧ SeqAt.shaped b = true then some (.bl (if neg then !PyData.eqv a b else PyData.eqv a b)) else none
  | _, _ => none
def scDs : List D → Option (List V)
  | [] => some []
  | d :: ds => (scD d).bind fun x => (scDs ds).map fun xs => x :: xs
def seqOf : D → Option (List D)
  | .lst ds | .lsq ds | .tup ds | .tpq ds => some ds
  | _ => none
def gIn (neg : Bool) (d e : D) : Option D := match scD d, (seqOf e).bind scDs with
  | some x, some xs => some (.bl (if neg then !inV x xs else inV x xs))
  | _, _ => none
def strsOf : List D → Option (List (List Nat))
  | [] => some []
  | .str x :: ds => (strsOf ds).map fun xs => x :: xs
  | _ :: _ => none
def isStr : D → Bool
  | .str _ => true
  | _ => false
def gJoin (d : D) (ds : List D) : Option D := match d, ds with
  | .str a, [e] => ((seqOf e).bind strsOf).bind fun ys => if (ys.map (·.length)).sum + ys.length * a.length ≤ 16777216 then some (.str (TL.joinL a ys)) else none
  | _, _ => none
def gAlpha (d : D) (ds : List D) : Option D := match d, ds with
  | .str a, [] => some (.bl (Txt.isalpha (S a)))
  | _, _ => none
def mBm (ok : D → Bool) (g : D → List D → Option D) (fa : MM Pl) (fs : MM (List Pl)) : MM D := fun ρ => (fa ρ).bind fun x => (Rs.of (plD x.2 x.1)).bind fun d0 => if ok d0 = true then (fs x.2).bind fun y => (Rs.of (plD y.2 x.1)).bind fun d => (Rs.of (rdA y.2 y.1)).bind fun ds => (Rs.of (g d ds)).bind fun z => .ok (z, y.2) else .no
def GM (K : PySem.W.Frag) (ca : Str → Addr) (r : V → List V → Hp → VK → Prop) (g : D → List D → Option D) : Prop := ∀ H B v vs d ds z Q, Live B H → Bor K ca H B v d → BorA K ca H B vs ds → g d ds = some z → (∀ v' H', SameH H H' → Rep K ca (mask H' B) v' z → Q v' H') → r v vs H Q
section
variable {K : PySem.W.Frag} {ca : Str → Addr}
theorem g_eqD : G2 K ca (rEqD K) (gEqD false) := by
  intro H B v w d e z Q lv hv hw hg q
  unfold gEqD at hg
  split at hg
  · rename_i a b e1 e2
    obtain ⟨⟨c1, c2⟩, rfl⟩ := ifo hg
    exact ⟨a, b, hv.rep.dp e1, hw.rep.dp e2, c1, c2, q _ H SameH.rfl (.bl _)⟩
  · cases hg
theorem g_neD : G2 K ca (rNeD K) (gEqD true) := by
  intro H B v w d e z Q lv hv hw hg q
  unfold gEqD at hg
  split at hg
  · rename_i a b e1 e2
    obtain ⟨⟨c1, c2⟩, rfl⟩ := ifo hg
    exact ⟨a, b, hv.rep.dp e1, hw.rep.dp e2, c1, c2, q _ H SameH.rfl (.bl _)⟩
  · cases hg
theorem rep_sc {H : Hp} {v x : V} {d : D} (h : Rep K ca H v d) (e : scD d = some x) : v = x := by
  cases d <;> first | (cases e; done) | (cases e; cases h; rfl)
theorem rep_scs {H : Hp} : ∀ {vs xs : List V} {ds : List D}, RepA K ca H vs ds → scDs ds = some xs → vs = xs
  | [], xs, _, .nil, e => by cases e; rfl
  | v :: vs, xs, _, .cons h r, e => by
    obtain ⟨x, e1, e2⟩ := Option.bind_eq_some_iff.mp e
    rw [Option.map_eq_some_iff] at e2
    obtain ⟨ys, e3, rfl⟩ := e2
    rw [rep_sc h e1, rep_scs r e3]
theorem flat_sc {x : V} {d : D} (e : scD d = some x) : flatV x = true := by
  cases d <;> first | (cases e; done) | (cases e; rfl)
theorem flat_scs : ∀ {xs : List V} {ds : List D}, scDs ds = some xs → xs.all flatV = true
  | xs, [], e => by cases e; rfl
  | xs, d :: ds, e => by
    obtain ⟨x, e1, e2⟩ := Option.bind_eq_some_iff.mp e
    rw [Option.map_eq_some_iff] at e2
    obtain ⟨ys, e3, rfl⟩ := e2
    rw [List.all_cons, flat_sc e1, flat_scs e3]
    rfl
theorem bor_seq {H : Hp} {B : Addr → Bool} {v : V} {d : D} {ds : List D} (h : Bor K ca H B v d) (e : seqOf d = some ds) : ∃ p xs, v = .ref p ∧ (SqL K H p xs ∨ SqT K H p xs) ∧ RepA K ca (mask H B) xs ds := by
  cases d <;> first | (cases e; done) | skip
  · cases e; obtain ⟨a, xs, rfl, h1, r⟩ := h.tup; exact ⟨a, xs, rfl, .inr (SqT.of (mask_le _ _ h1)), r⟩
  · cases e; obtain ⟨a, xs, rfl, h1, r⟩ := h.tpq; exact ⟨a, xs, rfl, .inr (sqT_up mask_le h1), r⟩
  · cases e; obtain ⟨a, xs, rfl, h1, r⟩ := h.lst; exact ⟨a, xs, rfl, .inl (SqL.of h1), r⟩
  · cases e; obtain ⟨a, xs, rfl, h1, r⟩ := h.lsq; exact ⟨a, xs, rfl, .inl h1, r⟩
theorem g_in (neg : Bool) : G2 K ca (rIn K neg) (gIn neg) := by
  intro H B v w d e z Q lv hv hw hg q
  unfold gIn at hg
  split at hg
  · rename_i x xs e1 e2
    cases hg
    obtain ⟨ds, e3, e4⟩ := Option.bind_eq_some_iff.mp e2
    obtain ⟨p, ys, rfl, h1, r⟩ := bor_seq hw e3
    have := rep_scs r e4
    subst this
    have := bor_sc hv e1
    subst this
    exact ⟨p, ys, rfl, h1, flat_sc e1, flat_scs e4, q _ H SameH.rfl (.bl _)⟩
  · cases hg
theorem rep_strs {H : Hp} : ∀ {vs : List V} {ds : List D} {xs : List (List Nat)}, RepA K ca H vs ds → strsOf ds = some xs → vs = (xs.map S).map V.str
  | [], _, xs, .nil, e => by cases e; rfl
  | v :: vs, d :: ds, xs, .cons h r, e => by
    cases d <;> first | (cases e; done) | skip
    simp only [strsOf, Option.map_eq_some_iff] at e
    obtain ⟨ys, e1, rfl⟩ := e
    cases h
    rw [rep_strs r e1]
    rfl
theorem m_join : GM K ca (fun x xs H Q => ∃ a p, ∃ ys : List Str, x = .str a ∧ xs = [.ref p] ∧ (SqL K H p (ys.map V.str) ∨ SqT K H p (ys.map V.str)) ∧ (ys.map (·.length)).sum + ys.length * a.length ≤ 16777216 ∧ Q (.str (Txt.join a ys)) H) gJoin := by
  intro H B v vs d ds z Q lv hv hb hg q
  unfold gJoin at hg
  split at hg
  · obtain ⟨ys, e1, e2⟩ := Option.bind_eq_some_iff.mp hg
    obtain ⟨es, e3, e4⟩ := Option.bind_eq_some_iff.mp e1
    obtain ⟨c, rfl⟩ := ifo e2
    obtain ⟨w, rfl, hw⟩ := bA1 hb
    obtain ⟨p, xs, rfl, h1, r⟩ := bor_seq hw e3
    have := rep_strs r e4
    subst this
    refine ⟨S _, p, ys.map S, hv.str, rfl, h1, ?_, ?_⟩
    · rw [List.map_map, List.length_map, S_len]
      have : ((fun x : Str => x.length) ∘ S) = fun x : List Nat => x.length := by funext x; exact S_len x
      rw [this]; exact c
    · rw [SX.join_S]
      exact q _ H SameH.rfl (.str _)
  · cases hg
theorem m_alpha : GM K ca (fun x xs H Q => ∃ a, x = .str a ∧ xs = [] ∧ True ∧ Q (.bl (Txt.isalpha a)) H) gAlpha := by
  intro H B v vs d ds z Q lv hv hb hg q
  unfold gAlpha at hg
  split at hg
  · cases hg
    cases hb
    exact ⟨S _, hv.str, rfl, trivial, q _ H SameH.rfl (.bl _)⟩
  · cases hg
theorem ty_str {H : Hp} {B : Addr → Bool} {v : V} {d : D} (h : Bor K ca H B v d) (e : isStr d = true) : tyV K "str" v H := by
  cases d <;> first | (cases e; done) | skip
  rw [h.str]
  rfl
end
section
variable {N : Cn} {B B' B1 B2 : Addr → Bool} {ρ ρ' ρ1 ρ2 : Env'} {σ σ' : L2.St} {H H' H1 H2 : Hp} {te ta ti : TE} {f : MM D} {fa fi : MM Pl} {t : TA} {fs : MM (List Pl)} {r : V → List V → Hp → VK → Prop} {g : D → List D → Option D} {ok : D → Bool} {T : String} {i : Nat}
theorem se_bm (hr : GM N.K N.ca r g) (hty : ∀ {H B v d}, Bor N.K N.ca H B v d → ok d = true → tyV N.K T v H) (ha : SPl N ta fa) (hs : SA N t fs) : SE N (tBM N.K T r ta t) (mBm ok g fa fs) := by
  intro B ρ σ H Q I hp
  unfold tBM
  refine Post.next back_E ha I hp fun v p ρ1 B1 H1 I1 s1 r1 q => ?_
  obtain ⟨d0, e0, q⟩ := q.opt
  obtain ⟨ho, q⟩ := q.ofOk
  refine ⟨hty (bor_of I1 r1.1 e0) ho, ?_⟩
  refine Post.next back_E hs I1 q fun vs ps ρ2 B2 H2 I2 s2 r2 q => ?_
  obtain ⟨d, ed, q⟩ := q.opt
  obtain ⟨ds, ee, q⟩ := q.opt
  obtain ⟨z, eg, q⟩ := q.opt
  exact hr H2 B2 v vs d ds z Q I2.tr (bor_of I2 (r1.1.up s2 I1) ed) (borA_of I2 r2.1 ee) eg fun v' H' sH rep => q.ok (I2.grow sH) (stp_grow sH) rep
theorem se_bm0 (hr : GM N.K N.ca r g) (hty : ∀ {H B v d}, Bor N.K N.ca H B v d → ok d = true → tyV N.K T v H) (ha : SPl N ta fa) : SE N (tBM0 N.K T r ta) (mBm ok g fa mNil) := se_bm hr hty ha sa_nil
/-- x[k] = e -/
def sSub (g : D → D → D → Option D) (i : Nat) (fi : MM Pl) (f : MM D) : MS := fun ρ => (f ρ).out fun x => (Rs.of (slotMut x.2 i)).out fun _ => (fi x.2).out fun y => (Rs.of (plD y.2 y.1)).out fun k => (Rs.of (slotMut y.2 i)).out fun c => (Rs.of (g c k x.1)).out fun c' =>
  (Rs.of (y.2[i]?)).out fun s => .nx (y.2.set i (s.put c'))
def MSub (K : PySem.W.Frag) (ca : Str → Addr) (r : TSet) (g : D → D → D → Option D) : Prop := ∀ H B a o c k kd v d c' Q, Live B H → H a = some o → Ct K ca (mask H B) o c → Bor K ca H B k kd → Rep K ca (mask H B) v d → g c kd d = some c' →
  (∀ o', Ct K ca (mask H B) o' c' → Q (upd H a o')) → r (.ref a) k v H Q
theorem PostS.opt {α : Type} {o : Option α} {k : α → Out} {W : Ends} (h : PostS N B H W ((Rs.of o).out k)) : ∃ z, o = some z ∧ PostS N B H W (k z) := by
  cases o with
  | none => exact h.elim
  | some z => exact ⟨z, rfl, h⟩
theorem ss_sub {r : TSet} {g : D → D → D → Option D} (hr : MSub N.K N.ca r g) (h : SE N te f) (hi : SPl N ti fi) : SS N (tAsg te (L2.gSub (tVar i) ti r)) (sSub g i fi f) := by
  intro B ρ σ H W I hp
  unfold sSub at hp
  refine Post.out h I hp fun v d ρ1 B1 H1 I1 s1 r1 q => ?_
  obtain ⟨c0, e0, q⟩ := q.opt
  obtain ⟨a, o, hσ, hB, hH, hc, k⟩ := I1.mutAt e0
  refine ⟨.ref a, hσ, ?_⟩
  refine Post.out hi I1 q fun kv kp ρ2 B2 H2 I2 s2 r2 q => ?_
  obtain ⟨kd, ek, q⟩ := q.opt
  obtain ⟨c, ec, q⟩ := q.opt
  obtain ⟨c', eg, q⟩ := q.opt
  obtain ⟨s, es, q⟩ := q.opt
  obtain ⟨a', o1, hσ', hB1, hH1, hc1, k1⟩ := I2.mutAt ec
  rw [hσ] at hσ'; cases hσ'
  have hm : s.mut = some c := by
    obtain ⟨x, ex, hx⟩ := slotMut_get ec
    rw [ex] at es; cases es; exact hx
  refine hr H2 B2 a o1 c kv kd v d c' _ I2.tr hH1 hc1 (bor_of I2 r2.1 ek) (r1.up s2.sm) eg fun o' ct => ?_
  obtain ⟨I3, s3⟩ := I2.setCt es hm hσ hH1 ct
  exact q σ B2 _ I3 s3.sm
def gSetL (c k d : D) : Option D := match c, k with
  | .lst xs, .int i => (ixN xs.length i).map fun j => .lst (xs.set j d)
  | _, _ => none
theorem g_setL {K : PySem.W.Frag} {ca : Str → Addr} : MSub K ca rSetL gSetL := by
  intro H B a o c k kd v d c' Q lv hH hc hk hd hg q
  cases c <;> cases kd <;> first | (cases hg; done) | skip
  rename_i xs i
  obtain ⟨ys, rfl, rx⟩ := ct_lst hc
  have hg : (ixN xs.length i).map (fun j => D.lst (xs.set j d)) = some c' := hg
  rw [Option.map_eq_some_iff] at hg
  obtain ⟨j, ej, rfl⟩ := hg
  exact ⟨a, ys, i, j, rfl, hk.int, hH, by rw [rx.len]; exact ej, q _ (rx.set j hd)⟩
end
/-! constants -/
def kwS (s : String) : List Nat := s.toList.map Char.toNat
theorem se_strK {N : Cn} {x : Str} {l : List Nat} (h : x.cps.toList = l) : SE N (tC (.str x)) (mC (.str l)) := by
  subst h; exact se_str
theorem rep_strl {K : PySem.W.Frag} {ca : Str → Addr} {H : Hp} : ∀ (xs : List (List Nat)), RepA K ca H (xs.map fun x => V.str (S x)) (xs.map D.str)
  | [] => .nil
  | x :: xs => .cons (.str x) (rep_strl xs)
theorem se_tpK {N : Cn} {a : Addr} {L : List V} {xs : List (List Nat)} (h : ∀ H : Hp, SqT N.K H a L) (e : L = xs.map fun x => V.str (S x)) : SE N (tC (.ref a)) (mC (.tpq (xs.map D.str))) :=
  se_C fun H => .tpq (h H) (by rw [e]; exact rep_strl xs)
/-! rules within a comprehension's block, the written part said -/
section
variable {X : Cx} {K : PySem.W.Frag}
theorem kx_ixL (h : X.K = K) : IxR X (rIxL K) := h ▸ ix_list
theorem kx_ixT (h : X.K = K) : IxR X (rIxT K) := h ▸ ix_tup
theorem kx_in (h : X.K = K) : OpR X (compareOp .In) (rIn K false) := h ▸ op_in_seq
theorem kx_nin (h : X.K = K) : OpR X (compareOp .NotIn) (rIn K true) := h ▸ op_notIn_seq
theorem kx_eqD (h : X.K = K) (hu : X.A.units + 64 < cLine) : OpR X (compareOp .Eq) (rEqD K) := h ▸ op_eqD hu
theorem kx_neD (h : X.K = K) (hu : X.A.units + 64 < cLine) : OpR X (compareOp .NotEq) (rNeD K) := h ▸ op_neD hu
theorem kx_slL (h : X.K = K) : SlR X (rSlL K) := h ▸ sl_list
theorem kx_slT (h : X.K = K) : SlR X (rSlT K) := h ▸ sl_tup
theorem kx_catA (h : X.K = K) : OpR X (binaryOp .Add) (rCatA K) := h ▸ op_catA
theorem kx_len (h : X.K = K) : CallR X (.builtin "len") (fun xs H Q => ∃ p ys, xs = [.ref p] ∧ (SqL K H p ys ∨ SqT K H p ys) ∧ Q (.int ys.length) H) := h ▸ call_len_seq
theorem kx_lst (h : X.K = K) : CallR X (.type "list") (fun xs H Q => ∃ p ys, xs = [.ref p] ∧ (SqL K H p ys ∨ SqT K H p ys) ∧ ∀ l, H l = none → Q (.ref l) (upd H l (.lst ys))) := h ▸ call_list_of
theorem kx_tpl (h : X.K = K) : CallR X (.type "tuple") (fun xs H Q => ∃ p ys, xs = [.ref p] ∧ ((SqL K H p ys ∧ ∀ l, H l = none → Q (.ref l) (upd H l (.tup ys))) ∨ (SqT K H p ys ∧ Q (.ref p) H))) := h ▸ call_tuple_of
theorem kx_piL {tg e : Expr} {te : TE} (h : X.K = K) (he : PE X e te) : PI X tg e (iList K te) := h ▸ pi_list he
theorem kx_piT {tg e : Expr} {te : TE} (h : X.K = K) (he : PE X e te) : PI X tg e (iTup K te) := h ▸ pi_tup he
theorem kx_pgT {tg : Expr} {n : Nat} {t : TGs} (h : X.K = K) (p : PG X tg (gTup X.K n t)) : PG X tg (gTup K n t) := h ▸ p
end

/-! ### M14. evaluation by rewriting: the first part first -/
section
variable {α β γ : Type}
theorem bind_ok (a : α) (f : α → Rs β) {i : Tg f} : @Rs.bind α β (Rs.ok a) f i = f a := Eq.trans rfl rfl
theorem bind_no (f : α → Rs β) {i : Tg f} : @Rs.bind α β .no f i = .no := Eq.trans rfl rfl
theorem bind_er (c : Str) (fs : List (Str × D)) (f : α → Rs β) {i : Tg f} : @Rs.bind α β (.er c fs) f i = .er c fs := Eq.trans rfl rfl
theorem of_some (a : α) : Rs.of (some a) = .ok a := Eq.trans rfl rfl
theorem of_none : Rs.of (none : Option α) = .no := Eq.trans rfl rfl
theorem seq_nx (ρ : Env') (f : MS) {i : Tg f} : @Out.seq (.nx ρ) f i = f ρ := Eq.trans rfl rfl
theorem seq_no (f : MS) {i : Tg f} : @Out.seq .no f i = .no := Eq.trans rfl rfl
theorem seq_rt (n : Bool) (d : D) (ρ : Env') (f : MS) {i : Tg f} : @Out.seq (.rt n d ρ) f i = .rt n d ρ := Eq.trans rfl rfl
theorem seq_bk (ρ : Env') (f : MS) {i : Tg f} : @Out.seq (.bk ρ) f i = .bk ρ := Eq.trans rfl rfl
theorem seq_ct (ρ : Env') (f : MS) {i : Tg f} : @Out.seq (.ct ρ) f i = .ct ρ := Eq.trans rfl rfl
theorem seq_er (c : Str) (fs : List (Str × D)) (f : MS) {i : Tg f} : @Out.seq (.er c fs) f i = .er c fs := Eq.trans rfl rfl
variable {ρ : Env'} {f g : MM D} {fa fb fc : MM Pl} {fs : MM (List Pl)} {c c' : MM Bool} {m m' : MS} {i j l : Nat} {d : D}
theorem mV_ap : mV f ρ = (f ρ).bind fun x => .ok (.v x.1, x.2) := Eq.trans rfl rfl
theorem mNw_ap : mNw f ρ = (f ρ).bind fun x => .ok (.n x.1, x.2) := Eq.trans rfl rfl
theorem mC_ap : mC d ρ = .ok (d, ρ) := Eq.trans rfl rfl
def mLk (i : Nat) (ρ : Env') : Option Sl → Rs (D × Env')
  | some (.v d) => .ok (d, ρ)
  | some (.o d) => .ok (d, ρ.set i (.v d))
  | _ => .no
theorem mL_ap : mL i ρ = mLk i ρ ρ[i]? := Eq.trans rfl rfl
theorem mLk_v : mLk i ρ (some (.v d)) = .ok (d, ρ) := Eq.trans rfl rfl
theorem mLk_o : mLk i ρ (some (.o d)) = .ok (d, ρ.set i (.v d)) := Eq.trans rfl rfl
def mTk (i : Nat) (ρ : Env') : Option Sl → Rs (D × Env')
  | some (.o d) => .ok (d, ρ.set i .e)
  | _ => .no
theorem mTake_ap : mTake i ρ = mTk i ρ ρ[i]? := Eq.trans rfl rfl
theorem mTk_o : mTk i ρ (some (.o d)) = .ok (d, ρ.set i .e) := Eq.trans rfl rfl
def mSk (i : Nat) (ρ : Env') : Option D → Rs (Pl × Env')
  | some _ => .ok (.s i, ρ)
  | none => .no
theorem mS_ap : mS i ρ = mSk i ρ ((ρ[i]?).bind Sl.d) := Eq.trans rfl rfl
theorem mSk_s : mSk i ρ (some d) = .ok (.s i, ρ) := Eq.trans rfl rfl
theorem sd_v : Sl.d (.v d) = some d := Eq.trans rfl rfl
theorem sd_o : Sl.d (.o d) = some d := Eq.trans rfl rfl
theorem sd_i : Sl.d (.i d) = some d := Eq.trans rfl rfl
theorem sd_b : Sl.d (.b d) = some d := Eq.trans rfl rfl
theorem sd_e : Sl.d .e = none := Eq.trans rfl rfl
theorem sm_o : Sl.mut (.o d) = some d := Eq.trans rfl rfl
theorem sm_i : Sl.mut (.i d) = some d := Eq.trans rfl rfl
theorem sp_o {e : D} : Sl.put (.o d) e = .o e := Eq.trans rfl rfl
theorem sp_i {e : D} : Sl.put (.i d) e = .i e := Eq.trans rfl rfl
theorem plD_v : plD ρ (.v d) = some d := Eq.trans rfl rfl
theorem plD_n : plD ρ (.n d) = some d := Eq.trans rfl rfl
theorem plD_s : plD ρ (.s i) = (ρ[i]?).bind Sl.d := Eq.trans rfl rfl
theorem slotMut_ap : slotMut ρ i = (ρ[i]?).bind Sl.mut := Eq.trans rfl rfl
theorem rdA_nil : rdA ρ [] = some [] := Eq.trans rfl rfl
theorem rdA_cons {p : Pl} {ps : List Pl} : rdA ρ (p :: ps) = (plD ρ p).bind fun d => (rdA ρ ps).map fun ds => d :: ds := by
  show (match plD ρ p, rdA ρ ps with
    | some d, some ds => some (d :: ds)
    | _, _ => none) = _
  cases plD ρ p <;> cases rdA ρ ps <;> rfl
theorem vals_nil : vals [] = some [] := Eq.trans rfl rfl
theorem vals_v {ps : List Pl} : vals (.v d :: ps) = (vals ps).map fun ds => d :: ds := Eq.trans rfl rfl
theorem m1_ap {h : D → Option D} : m1 h fa ρ = (fa ρ).bind fun x => (Rs.of (plD x.2 x.1)).bind fun d => (Rs.of (h d)).bind fun z => .ok (z, x.2) := Eq.trans rfl rfl
theorem m2_ap {h : D → D → Option D} : m2 h fa fb ρ = (fa ρ).bind fun x => (fb x.2).bind fun y => (Rs.of (plD y.2 x.1)).bind fun d => (Rs.of (plD y.2 y.1)).bind fun e => (Rs.of (h d e)).bind fun z => .ok (z, y.2) := Eq.trans rfl rfl
theorem m3_ap {h : D → Option Int → Option Int → Option D} {fl fh : MM (Option Int)} : m3 h fa fl fh ρ = (fa ρ).bind fun x => (fl x.2).bind fun l => (fh l.2).bind fun u => (Rs.of (plD u.2 x.1)).bind fun d => (Rs.of (h d l.1 u.1)).bind fun z => .ok (z, u.2) := Eq.trans rfl rfl
theorem mA_ap {h : List D → Option D} : mA h fs ρ = (fs ρ).bind fun x => (Rs.of (rdA x.2 x.1)).bind fun ds => (Rs.of (h ds)).bind fun z => .ok (z, x.2) := Eq.trans rfl rfl
theorem mNil_ap : mNil ρ = .ok ([], ρ) := Eq.trans rfl rfl
theorem mCons_ap : mCons fa fs ρ = (fa ρ).bind fun x => (fs x.2).bind fun y => .ok (x.1 :: y.1, y.2) := Eq.trans rfl rfl
theorem mTup_ap : mTup fs ρ = (fs ρ).bind fun x => (Rs.of (vals x.1)).bind fun ds => if ds.length ≤ sizeLine then .ok (.tup ds, x.2) else .no := Eq.trans rfl rfl
theorem mLst_ap : mLst fs ρ = (fs ρ).bind fun x => (Rs.of (vals x.1)).bind fun ds => if ds.length ≤ sizeLine then .ok (.lst ds, x.2) else .no := Eq.trans rfl rfl
theorem mNoPart_ap : mNoPart ρ = .ok (none, ρ) := Eq.trans rfl rfl
theorem mPart_ap : mPart f ρ = (f ρ).bind fun x => (Rs.of (dInt x.1)).bind fun i => .ok (some i, x.2) := Eq.trans rfl rfl
theorem dInt_i {k : Int} : dInt (.int k) = some k := Eq.trans rfl rfl
theorem dBl_b {k : Bool} : dBl (.bl k) = some k := Eq.trans rfl rfl
theorem mNot_ap : mNot f ρ = (f ρ).bind fun x => (Rs.of (dBl x.1)).bind fun b => .ok (.bl (!b), x.2) := Eq.trans rfl rfl
theorem mAndV_ap : mAndV f g ρ = (f ρ).bind fun x => (Rs.of (dBl x.1)).bind fun b => if b = true then g x.2 else .ok (.bl false, x.2) := Eq.trans rfl rfl
theorem mOrV_ap : mOrV f g ρ = (f ρ).bind fun x => (Rs.of (dBl x.1)).bind fun b => if b = true then .ok (.bl true, x.2) else g x.2 := Eq.trans rfl rfl
theorem mIfE_ap {u v : MM α} : mIfE c u v ρ = (c ρ).bind fun x => if x.1 = true then u x.2 else v x.2 := Eq.trans rfl rfl
theorem tB_ap : tB' f ρ = (f ρ).bind fun x => (Rs.of (dBl x.1)).bind fun b => .ok (b, x.2) := Eq.trans rfl rfl
theorem tAnd_ap : tAnd' c c' ρ = (c ρ).bind fun x => if x.1 = true then c' x.2 else .ok (false, x.2) := Eq.trans rfl rfl
theorem tOr_ap : tOr' c c' ρ = (c ρ).bind fun x => if x.1 = true then .ok (true, x.2) else c' x.2 := Eq.trans rfl rfl
theorem tNot_ap : tNot' c ρ = (c ρ).bind fun x => .ok (!x.1, x.2) := Eq.trans rfl rfl
theorem mYes_ap : mYes ρ = .ok (true, ρ) := Eq.trans rfl rfl
theorem sNx_ap : sNx ρ = .nx ρ := Eq.trans rfl rfl
theorem sBk_ap : sBk ρ = .bk ρ := Eq.trans rfl rfl
theorem sCt_ap : sCt ρ = .ct ρ := Eq.trans rfl rfl
theorem sSeq_ap : sSeq m m' ρ = (m ρ).seq m' := Eq.trans rfl rfl
theorem sDrop_ap : sDrop f ρ = (f ρ).out fun x => .nx x.2 := Eq.trans rfl rfl
theorem sRet_ap : sRet f ρ = (f ρ).out fun x => .rt false x.1 x.2 := Eq.trans rfl rfl
theorem sRetN_ap : sRetN f ρ = (f ρ).out fun x => .rt true x.1 x.2 := Eq.trans rfl rfl
theorem sRet0_ap : sRet0 ρ = .rt false .non ρ := Eq.trans rfl rfl
theorem sIf_ap : sIf c m m' ρ = (c ρ).out fun x => if x.1 = true then m x.2 else m' x.2 := Eq.trans rfl rfl
def putSK (ρ : Env') (i : Nat) (s : Sl) : Option Sl → Out
  | some x => if isI x = true then .no else .nx (ρ.set i s)
  | none => .no
theorem putSl_ap {s : Sl} : putSl ρ i s = putSK ρ i s ρ[i]? := by
  unfold putSl putSK
  cases ρ[i]? <;> rfl
theorem putSK_e {s : Sl} : putSK ρ i s (some .e) = .nx (ρ.set i s) := Eq.trans rfl rfl
theorem putSK_v {s : Sl} : putSK ρ i s (some (.v d)) = .nx (ρ.set i s) := Eq.trans rfl rfl
theorem putSK_o {s : Sl} : putSK ρ i s (some (.o d)) = .nx (ρ.set i s) := Eq.trans rfl rfl
theorem putSK_b {s : Sl} : putSK ρ i s (some (.b d)) = .nx (ρ.set i s) := Eq.trans rfl rfl
theorem sSet_ap : sSet i f ρ = (f ρ).out fun x => putSl x.2 i (.v x.1) := Eq.trans rfl rfl
theorem sSetN_ap : sSetN i f ρ = (f ρ).out fun x => putSl x.2 i (.o x.1) := Eq.trans rfl rfl
def asgK : Option Env' → Out
  | some ρ' => .nx ρ'
  | none => .no
theorem sAsg_ap {mg : MG} : sAsg f mg ρ = (f ρ).out fun x => asgK (mg x.1 x.2) := by
  unfold sAsg asgK
  rfl
theorem asgK_s : asgK (some ρ) = .nx ρ := Eq.trans rfl rfl
def gNk (ρ : Env') (i : Nat) (d : D) : Option Sl → Option Env'
  | some x => if isI x = true then none else some (ρ.set i (.v d))
  | none => none
theorem gNm_ap : gNm i d ρ = gNk ρ i d ρ[i]? := by
  unfold gNm gNk
  cases ρ[i]? <;> rfl
theorem gNk_e : gNk ρ i d (some .e) = some (ρ.set i (.v d)) := Eq.trans rfl rfl
theorem gNk_v {e : D} : gNk ρ i d (some (.v e)) = some (ρ.set i (.v d)) := Eq.trans rfl rfl
theorem gNk_o {e : D} : gNk ρ i d (some (.o e)) = some (ρ.set i (.v d)) := Eq.trans rfl rfl
theorem gNo_ap : gNo [] ρ = some ρ := Eq.trans rfl rfl
theorem gCo_ap {mg : MG} {mgs : MGs} {ds : List D} : gCo mg mgs (d :: ds) ρ = (mg d ρ).bind fun ρ' => mgs ds ρ' := Eq.trans rfl rfl
theorem gTp_t {n : Nat} {mgs : MGs} {ds : List D} : gTp n mgs (.tup ds) ρ = if ds.length = n then mgs ds ρ else none := Eq.trans rfl rfl
theorem gTp_q {n : Nat} {mgs : MGs} {ds : List D} : gTp n mgs (.tpq ds) ρ = if ds.length = n then mgs ds ρ else none := Eq.trans rfl rfl
theorem out_ext {α : Type} {r : Rs α} {f g : α → Out} (h : ∀ a, f a = g a) : r.out f = r.out g := by
  cases r with
  | ok a => exact h a
  | no => rfl
  | er c fs => rfl
def par2K (ρ : Env') (i j : Nat) : List Pl → Out
  | [p, q] => (Rs.of (plSl p)).out fun s => (Rs.of (plSl q)).out fun s' => (putSl ρ i s).seq fun ρ => putSl ρ j s'
  | _ => .no
def par3K (ρ : Env') (i j l : Nat) : List Pl → Out
  | [p, q, r] => (Rs.of (plSl p)).out fun s => (Rs.of (plSl q)).out fun s' => (Rs.of (plSl r)).out fun s'' => (putSl ρ i s).seq fun ρ => (putSl ρ j s').seq fun ρ => putSl ρ l s''
  | _ => .no
theorem sPar2_ap : sPar2 i j fs ρ = (fs ρ).out fun x => par2K x.2 i j x.1 := by
  unfold sPar2
  refine out_ext fun x => ?_
  obtain ⟨ps, ρ2⟩ := x
  rcases ps with _ | ⟨p, _ | ⟨q, _ | ⟨r, ps⟩⟩⟩
  · rfl
  · rfl
  · show (match plSl p, plSl q with
      | some s, some s' => (putSl ρ2 i s).seq fun ρ => putSl ρ j s'
      | _, _ => .no) = (Rs.of (plSl p)).out fun s => (Rs.of (plSl q)).out fun s' => (putSl ρ2 i s).seq fun ρ => putSl ρ j s'
    cases plSl p <;> cases plSl q <;> rfl
  · rfl
theorem sPar3_ap : sPar3 i j l fs ρ = (fs ρ).out fun x => par3K x.2 i j l x.1 := by
  unfold sPar3
  refine out_ext fun x => ?_
  obtain ⟨ps, ρ2⟩ := x
  rcases ps with _ | ⟨p, _ | ⟨q, _ | ⟨r, _ | ⟨u, ps⟩⟩⟩⟩
  · rfl
  · rfl
  · rfl
  · show (match plSl p, plSl q, plSl r with
      | some s, some s', some s'' => ((putSl ρ2 i s).seq fun ρ => putSl ρ j s').seq fun ρ => putSl ρ l s''
      | _, _, _ => .no) = (Rs.of (plSl p)).out fun s => (Rs.of (plSl q)).out fun s' => (Rs.of (plSl r)).out fun s'' => (putSl ρ2 i s).seq fun ρ => (putSl ρ j s').seq fun ρ => putSl ρ l s''
    cases plSl p <;> cases plSl q <;> cases plSl r <;> first | rfl | skip
    rename_i a b c
    show ((putSl ρ2 i a).seq fun ρ => putSl ρ j b).seq (fun ρ => putSl ρ l c) = (putSl ρ2 i a).seq fun ρ => (putSl ρ j b).seq fun ρ => putSl ρ l c
    cases putSl ρ2 i a <;> rfl
  · rfl
theorem par2K_2 {p q : Pl} : par2K ρ i j [p, q] = (Rs.of (plSl p)).out fun s => (Rs.of (plSl q)).out fun s' => (putSl ρ i s).seq fun ρ => putSl ρ j s' := Eq.trans rfl rfl
theorem par3K_3 {p q r : Pl} : par3K ρ i j l [p, q, r] = (Rs.of (plSl p)).out fun s => (Rs.of (plSl q)).out fun s' => (Rs.of (plSl r)).out fun s'' => (putSl ρ i s).seq fun ρ => (putSl ρ j s').seq fun ρ => putSl ρ l s'' := Eq.trans rfl rfl
theorem plSl_v : plSl (.v d) = some (.v d) := Eq.trans rfl rfl
theorem plSl_n : plSl (.n d) = some (.o d) := Eq.trans rfl rfl
theorem sSub_ap {h : D → D → D → Option D} : sSub h i fa f ρ = (f ρ).out fun x => (Rs.of (slotMut x.2 i)).out fun _ => (fa x.2).out fun y => (Rs.of (plD y.2 y.1)).out fun k => (Rs.of (slotMut y.2 i)).out fun c => (Rs.of (h c k x.1)).out fun c' =>
  (Rs.of (y.2[i]?)).out fun s => .nx (y.2.set i (s.put c')) := Eq.trans rfl rfl
theorem mMut_ap {ok : D → Bool} {h : D → List D → Option (D × D)} : mMut ok h i fs ρ = (Rs.of (slotMut ρ i)).bind fun c0 => if ok c0 = true then (fs ρ).bind fun x => (Rs.of (rdA x.2 x.1)).bind fun ds =>
  (Rs.of (slotMut x.2 i)).bind fun c => (Rs.of (h c ds)).bind fun z => (Rs.of (x.2[i]?)).bind fun s => .ok (z.1, x.2.set i (s.put z.2)) else .no := Eq.trans rfl rfl
theorem mMutV_ap {ok : D → Bool} {h : D → List D → Option (D × D)} : mMutV ok h i fs ρ = (Rs.of (slotMut ρ i)).bind fun c0 => if ok c0 = true then (fs ρ).bind fun x => (Rs.of (vals x.1)).bind fun ds =>
  (Rs.of (slotMut x.2 i)).bind fun c => (Rs.of (h c ds)).bind fun z => (Rs.of (x.2[i]?)).bind fun s => .ok (z.1, x.2.set i (s.put z.2)) else .no := Eq.trans rfl rfl
theorem isLst_l {ds : List D} : isLst (.lst ds) = true := Eq.trans rfl rfl
theorem isStr_s {x : List Nat} : isStr (.str x) = true := Eq.trans rfl rfl
theorem mBm_ap {ok : D → Bool} {h : D → List D → Option D} : mBm ok h fa fs ρ = (fa ρ).bind fun x => (Rs.of (plD x.2 x.1)).bind fun d0 => if ok d0 = true then (fs x.2).bind fun y => (Rs.of (plD y.2 x.1)).bind fun d => (Rs.of (rdA y.2 y.1)).bind fun ds => (Rs.of (h d ds)).bind fun z => .ok (z, y.2) else .no := Eq.trans rfl rfl
def callK (ks : List Kd) (ps : List Pl) (ρ : Env') : Rs (D × List D) → Rs (D × Env')
  | .ok r => .ok (r.1, putIo ks ps r.2 ρ)
  | _ => .no
theorem mCall_ap {ks : List Kd} {mm : Mr} : mCall ks mm fs ρ = (fs ρ).bind fun x => (Rs.of (argsD ks x.1 x.2)).bind fun ds => if okIo ks x.1 = true then callK ks x.1 x.2 (mm ds) else .no := by
  unfold mCall callK
  congr 1
theorem callK_ok {ks : List Kd} {ps : List Pl} {r : D × List D} : callK ks ps ρ (.ok r) = .ok (r.1, putIo ks ps r.2 ρ) := Eq.trans rfl rfl
theorem argsD_nil : argsD [] [] ρ = some [] := Eq.trans rfl rfl
theorem argsD_cons {k : Kd} {ks : List Kd} {p : Pl} {ps : List Pl} : argsD (k :: ks) (p :: ps) ρ = (argD k p ρ).bind fun d => (argsD ks ps ρ).bind fun ds => some (d :: ds) := Eq.trans rfl rfl
theorem argD_v : argD .v (.v d) ρ = some d := Eq.trans rfl rfl
theorem argD_n : argD .i (.n d) ρ = some d := Eq.trans rfl rfl
theorem argD_i : argD .i (.s i) ρ = slotMut ρ i := Eq.trans rfl rfl
theorem argD_b : argD .b (.v d) ρ = some d := Eq.trans rfl rfl
theorem argD_bs : argD .b (.s i) ρ = (ρ[i]?).bind Sl.d := Eq.trans rfl rfl
theorem mIt_ap {h : D → Option (List D)} : mIt h f ρ = (f ρ).bind fun x => (Rs.of (h x.1)).bind fun ds => .ok (ds, x.2) := Eq.trans rfl rfl
theorem mItA_ap {h : List D → Option (List D)} : mItA h fs ρ = (fs ρ).bind fun x => (Rs.of (vals x.1)).bind fun vs => (Rs.of (h vs)).bind fun ds => .ok (ds, x.2) := Eq.trans rfl rfl
theorem sFor_ap {fi : MM (List D)} {mg : MG} : sFor fi mg m ρ = (fi ρ).out fun x => forL mg m x.1 x.2 := Eq.trans rfl rfl
theorem mLc_ap {fi : MM (List D)} {mg : MG} {vs : List Nat} : mLc fi mg c f vs ρ = (fi ρ).bind fun x => (Rs.of (wipeM vs x.2)).bind fun ρ1 => (lcL mg c f vs x.1 [] ρ1).bind fun y => .ok (.lst y.1, y.2) := Eq.trans rfl rfl
def runK (rn : Bool) (ks : List Kd) : Out → Rs (D × List D)
  | .nx ρ => if rn = true then .no else .ok (.non, outsD ks ρ)
  | .rt nw d ρ => if rn = true ∧ nw = false then .no else .ok (d, outsD ks ρ)
  | .er c fs => .er c fs
  | _ => .no
theorem runM_ap {rn : Bool} {ks : List Kd} {n : Nat} {ds : List D} : runM rn ks n m ds = runK rn ks (m (ini ks ds n)) := by
  unfold runM runK
  cases m (ini ks ds n) <;> rfl
theorem runK_nx {ks : List Kd} : runK false ks (.nx ρ) = .ok (.non, outsD ks ρ) := Eq.trans rfl rfl
theorem runK_rt {ks : List Kd} {nw : Bool} : runK false ks (.rt nw d ρ) = .ok (d, outsD ks ρ) := Eq.trans rfl rfl
theorem runK_rn {ks : List Kd} : runK true ks (.rt true d ρ) = .ok (d, outsD ks ρ) := Eq.trans rfl rfl
end
theorem gII_ok {h : Int → Int → D} {i j : Int} : gII h (.int i) (.int j) = some (h i j) := Eq.trans rfl rfl
theorem gIxL_l {xs : List D} {i : Int} : gIxL (.lst xs) (.int i) = atI xs i := Eq.trans rfl rfl
theorem gIxL_q {xs : List D} {i : Int} : gIxL (.lsq xs) (.int i) = atI xs i := Eq.trans rfl rfl
theorem gIxT_t {xs : List D} {i : Int} : gIxT (.tup xs) (.int i) = atI xs i := Eq.trans rfl rfl
theorem gIxT_q {xs : List D} {i : Int} : gIxT (.tpq xs) (.int i) = atI xs i := Eq.trans rfl rfl
theorem gInt_i {i : Int} : gInt [.int i] = some (.int i) := Eq.trans rfl rfl
theorem gAbs_i {i : Int} : gAbs [.int i] = some (.int (if i < 0 then -i else i)) := Eq.trans rfl rfl
theorem gMax_i {i j : Int} : gMax [.int i, .int j] = some (.int (if j > i then j else i)) := Eq.trans rfl rfl
theorem gMin_i {i j : Int} : gMin [.int i, .int j] = some (.int (if j < i then j else i)) := Eq.trans rfl rfl
theorem gLen_l {xs : List D} : gLen [.lst xs] = some (.int xs.length) := Eq.trans rfl rfl
theorem gLen_q {xs : List D} : gLen [.lsq xs] = some (.int xs.length) := Eq.trans rfl rfl
theorem gLen_t {xs : List D} : gLen [.tup xs] = some (.int xs.length) := Eq.trans rfl rfl
theorem gLen_p {xs : List D} : gLen [.tpq xs] = some (.int xs.length) := Eq.trans rfl rfl
theorem gSetL_l {xs : List D} {i : Int} {d : D} : gSetL (.lst xs) (.int i) d = (ixN xs.length i).map fun j => .lst (xs.set j d) := Eq.trans rfl rfl
theorem gCatS_s {a b : List Nat} : gCatS (.str a) (.str b) = if a.length + b.length ≤ sizeLine then some (.str (a ++ b)) else none := Eq.trans rfl rfl
theorem gCatL_l {a b : List D} : gCatL (.lst a) (.lst b) = if a.length + b.length ≤ sizeLine then some (.lst (a ++ b)) else none := Eq.trans rfl rfl
theorem gCatT_t {a b : List D} : gCatT (.tup a) (.tup b) = if a.length + b.length ≤ sizeLine then some (.tup (a ++ b)) else none := Eq.trans rfl rfl
theorem gAppend_l {xs : List D} {d : D} : gAppend (.lst xs) [d] = if xs.length < sizeLine then some (.non, .lst (xs ++ [d])) else none := Eq.trans rfl rfl
theorem gExtend_l {xs ys : List D} : gExtend (.lst xs) [.lst ys] = if xs.length + ys.length ≤ sizeLine then some (.non, .lst (xs ++ ys)) else none := Eq.trans rfl rfl
theorem gPopAt_l {xs : List D} {i : Int} : gPopAt (.lst xs) [.int i] = if -(2 ^ 63) ≤ i ∧ i < 2 ^ 63 then (seqIndex? i xs.length).bind fun k => (xs[k]?).map fun d => (d, .lst (xs.eraseIdx k)) else none := Eq.trans rfl rfl
theorem gLstS_s {x : List Nat} : gLstS [.str x] = if x.length ≤ sizeLine then some (.lst (x.map fun c => .str [c])) else none := Eq.trans rfl rfl
theorem lstOf_l {xs : List D} : lstOf (.lst xs) = some xs := Eq.trans rfl rfl
theorem lstOf_q {xs : List D} : lstOf (.lsq xs) = some xs := Eq.trans rfl rfl
theorem tupOf_t {xs : List D} : tupOf (.tup xs) = some xs := Eq.trans rfl rfl
theorem tupOf_q {xs : List D} : tupOf (.tpq xs) = some xs := Eq.trans rfl rfl
theorem ini_v {ks : List Kd} {d : D} {ds : List D} {n : Nat} : ini (.v :: ks) (d :: ds) n = .v d :: ini ks ds n := Eq.trans rfl rfl
theorem ini_i {ks : List Kd} {d : D} {ds : List D} {n : Nat} : ini (.i :: ks) (d :: ds) n = .i d :: ini ks ds n := Eq.trans rfl rfl
theorem ini_b {ks : List Kd} {d : D} {ds : List D} {n : Nat} : ini (.b :: ks) (d :: ds) n = .b d :: ini ks ds n := Eq.trans rfl rfl
theorem ini_0 {n : Nat} : ini [] [] n = List.replicate n .e := Eq.trans rfl rfl
theorem outs_0 {ρ : Env'} : outsD [] ρ = [] := Eq.trans rfl rfl
theorem outs_c {k : Kd} {ks : List Kd} {s : Sl} {ρ : Env'} : outsD (k :: ks) (s :: ρ) = slotD s :: outsD ks ρ := Eq.trans rfl rfl
theorem slotD_v {d : D} : slotD (.v d) = d := Eq.trans rfl rfl
theorem slotD_o {d : D} : slotD (.o d) = d := Eq.trans rfl rfl
theorem slotD_i {d : D} : slotD (.i d) = d := Eq.trans rfl rfl
theorem slotD_b {d : D} : slotD (.b d) = d := Eq.trans rfl rfl
theorem slotD_e : slotD .e = .non := Eq.trans rfl rfl
theorem atI0 {α : Type} {a : α} {xs : List α} : atI (a :: xs) 0 = some a := by
  simp [atI, ixN]
theorem atI1 {α : Type} {a b : α} {xs : List α} : atI (a :: b :: xs) 1 = some b := by
  have : (1 : Int) < (xs.length : Int) + 1 + 1 := by omega
  simp [atI, ixN, this]
theorem ixN0 {n : Nat} : ixN (n + 1) 0 = some 0 := by
  simp [ixN]
theorem ixN1 {n : Nat} : ixN (n + 1 + 1) 1 = some 1 := by
  have : (1 : Int) < (n : Int) + 1 + 1 := by omega
  simp [ixN, this]
theorem gMod_ok {i j : Int} (h : 0 < j) : gMod (.int i) (.int j) = some (.int (i % j)) := gIC_ok h
theorem gModN_ok {i j : Int} (h : j ≠ 0) : gModN (.int i) (.int j) = some (.int (i.fmod j)) := gIC_ok h
theorem gMul_r {i j : Int} (h : -18446744073709551616 < j) (h' : j < 18446744073709551616) : gMul (.int i) (.int j) = some (.int (i * j)) := gIC_ok (C := CMul) (.inr ⟨h, h'⟩)
theorem gMul_l {i j : Int} (h : -18446744073709551616 < i) (h' : i < 18446744073709551616) : gMul (.int i) (.int j) = some (.int (i * j)) := gIC_ok (C := CMul) (.inl ⟨h, h'⟩)
/-- a divisor that is not too great -/
def Wd (j : Int) : Prop := 0 < j ∧ j.natAbs < 2 ^ 9000
theorem Wd.of {j : Int} (h : 0 < j) (h' : j ≤ 100000000) : Wd j := ⟨h, Nat.lt_of_le_of_lt (show j.natAbs ≤ 100000000 by omega) (by decide +kernel)⟩
theorem gDivW_ok {i j : Int} (h : Wd j) : gDivW (.int i) (.int j) = some (.int (i / j)) := gIC_ok (C := CDivW) (wide_div h.1 h.2 (by decide) (by decide))
theorem wd13 : Wd 13 := Wd.of (by decide) (by decide)
theorem wd32 : Wd 32 := Wd.of (by decide) (by decide)
theorem gPow_ok {i j : Int} (h : 0 ≤ j) (h1 : j ≤ 1000000) (h2 : i.natAbs < 2 ^ 64) : gPow (.int i) (.int j) = some (.int (i ^ j.toNat)) := gIC_ok (C := CPow) ⟨h, h1, h2⟩
/-! the bag of draws -/
abbrev Bg := Int × Int
def bgD (b : Bg) : D := .lst [.int b.1, .int b.2]
def dig (b : Bg) (m : Int) : Int := if 0 < b.1 then b.1 % m else (b.2 * 69621 + 40503) % 2147483647 / 13 * 16807 % 2147483629 / 32 % m
def nxt (b : Bg) (m : Int) : Bg := if 0 < b.1 then (b.1 / m, b.2) else (b.1, (b.2 * 69621 + 40503) % 2147483647)
theorem dig_ge {b : Bg} {m : Int} (h : 0 < m) : 0 ≤ dig b m := by
  unfold dig; split <;> exact Int.emod_nonneg _ (by omega)
theorem dig_lt {b : Bg} {m : Int} (h : 0 < m) : dig b m < m := by
  unfold dig; split <;> exact Int.emod_lt_of_pos _ h

/-! ### M15. slots behind a call; defs that call themselves -/
section
variable {ρ : Env'} {ks : List Kd} {ps : List Pl} {os : List D} {i : Nat} {o d : D}
def setP (i : Nat) (o : D) (ρ : Env') : Option Sl → Env'
  | some s => ρ.set i (s.put o)
  | none => ρ
theorem setP_s {s : Sl} : setP i o ρ (some s) = ρ.set i (s.put o) := Eq.trans rfl rfl
theorem putIo_0 : putIo [] [] os ρ = ρ := by
  unfold putIo
  apply List.ext_getElem?
  intro j
  rw [List.getElem?_mapIdx]
  cases ρ[j]? <;> rfl
theorem putIo_skip {k : Kd} {p : Pl} (h : ∀ i, isIo i (k, p) = false) : putIo (k :: ks) (p :: ps) (o :: os) ρ = putIo ks ps os ρ := by
  unfold putIo
  congr 1
  funext i s
  rw [List.zip_cons_cons, List.findIdx?_cons, h i]
  cases (ks.zip ps).findIdx? (isIo i) <;> rfl
theorem putIo_v {p : Pl} : putIo (.v :: ks) (p :: ps) (o :: os) ρ = putIo ks ps os ρ := putIo_skip fun i => by cases p <;> rfl
theorem putIo_b {p : Pl} : putIo (.b :: ks) (p :: ps) (o :: os) ρ = putIo ks ps os ρ := putIo_skip fun i => by cases p <;> rfl
theorem putIo_n : putIo (.i :: ks) (.n d :: ps) (o :: os) ρ = putIo ks ps os ρ := putIo_skip fun i => rfl
theorem putIo_i : putIo (.i :: ks) (.s i :: ps) (o :: os) ρ = setP i o (putIo ks ps os ρ) ρ[i]? := by
  unfold putIo
  apply List.ext_getElem?
  intro j
  by_cases hj : j = i
  · subst hj
    cases e : ρ[j]? with
    | none =>
      rw [List.getElem?_mapIdx, e]
      show none = (List.mapIdx _ ρ)[j]?
      rw [List.getElem?_mapIdx, e]; rfl
    | some s =>
      rw [List.getElem?_mapIdx, e, setP_s]
      rw [List.getElem?_set_self (by rw [List.length_mapIdx]; exact (List.getElem?_eq_some_iff.mp e).1)]
      rw [List.zip_cons_cons, List.findIdx?_cons]
      have : isIo j (Kd.i, Pl.s j) = true := by simp [isIo]
      rw [this]
      rfl
  · have hb : isIo j (Kd.i, Pl.s i) = false := by
      show (i == j) = false
      simpa using fun z => hj z.symm
    have fin : ∀ s : Sl, (match List.findIdx? (isIo j) ((Kd.i :: ks).zip (Pl.s i :: ps)) with
        | some j => match (o :: os)[j]? with
          | some d => s.put d
          | none => s
        | none => s) = match List.findIdx? (isIo j) (ks.zip ps) with
        | some j => match os[j]? with
          | some d => s.put d
          | none => s
        | none => s := fun s => by
      rw [List.zip_cons_cons, List.findIdx?_cons, hb]
      cases (ks.zip ps).findIdx? (isIo j) <;> rfl
    cases e : ρ[i]? with
    | none =>
      show _ = (List.mapIdx _ ρ)[j]?
      rw [List.getElem?_mapIdx, List.getElem?_mapIdx]
      congr 1
      funext s
      exact fin s
    | some s' =>
      rw [setP_s, List.getElem?_set_ne (fun z => hj z.symm)]
      rw [List.getElem?_mapIdx, List.getElem?_mapIdx]
      congr 1
      funext s
      exact fin s
end
/-- no slot is handed over twice -/
def okR : List Kd → List Pl → List Nat → List Nat → Bool
  | .i :: ks, .s i :: ps, is, bs => !is.contains i && !bs.contains i && okR ks ps (i :: is) bs
  | .b :: ks, .s i :: ps, is, bs => !is.contains i && okR ks ps is (i :: bs)
  | _ :: ks, _ :: ps, is, bs => okR ks ps is bs
  | _, _, _, _ => true
/-- what a def that calls itself promises with no fuel: nothing -/
theorem cal0 {P : Program} {w : World} {K : PySem.W.Frag} {mg : Str → Option Value} {base : Heap} {ca : Str → Addr} {x : Str} {st : Stmt} {Nm ps : List Str} {ks : List Kd} {rn : Bool} (k : Nat) (D : Dfn K mg x st ps) (S : FnScope Nm ps (defScope st)) :
    Cal P w K mg base (k + 1) x (spM K ca ks rn false (fun _ => .no)) [] :=
  cal_of D S (fun _ _ _ _ h => by obtain ⟨_, _, _, h⟩ := h; exact h.elim) fun _ _ _ _ _ _ _ _ _ _ h => by obtain ⟨_, _, _, h⟩ := h; exact h.elim
theorem okR_all : ∀ {ks : List Kd} {ps : List Pl} {is bs : List Nat}, okR ks ps is bs = true →
    (∀ (j l : Nat) (k k' : Kd) (p p' : Pl), j ≠ l → ks[j]? = some k → ps[j]? = some p → ks[l]? = some k' → ps[l]? = some p' → clash k p k' p' = false) ∧
    (∀ (j i : Nat), ks[j]? = some .i → ps[j]? = some (.s i) → i ∉ is ∧ i ∉ bs) ∧ (∀ (j i : Nat), ks[j]? = some .b → ps[j]? = some (.s i) → i ∉ is)
  | [], ps, is, bs, _ => ⟨fun j l k k' p p' _ e => by simp at e, fun j i e => by simp at e, fun j i e => by simp at e⟩
  | k :: ks, [], is, bs, _ => ⟨fun j l k k' p p' _ _ e => by simp at e, fun j i _ e => by simp at e, fun j i _ e => by simp at e⟩
  | k :: ks, p :: ps, is, bs, h => by
    have main : ∃ is' bs', okR ks ps is' bs' = true ∧ (∀ x ∈ is, x ∈ is') ∧ (∀ x ∈ bs, x ∈ bs') ∧ (∀ i, k = .i → p = .s i → i ∉ is ∧ i ∉ bs ∧ i ∈ is') ∧ (∀ i, k = .b → p = .s i → i ∉ is ∧ i ∈ bs') := by
      cases k <;> cases p
      case i.s i =>
        simp only [okR, Bool.and_eq_true, Bool.not_eq_true', List.contains_eq_mem, decide_eq_false_iff_not] at h
        exact ⟨i :: is, bs, h.2, fun x hx => List.mem_cons_of_mem _ hx, fun x hx => hx, fun j _ e => by cases e; exact ⟨h.1.1, h.1.2, List.mem_cons_self⟩, fun j e => by cases e⟩
      case b.s i =>
        simp only [okR, Bool.and_eq_true, Bool.not_eq_true', List.contains_eq_mem, decide_eq_false_iff_not] at h
        exact ⟨is, i :: bs, h.2, fun x hx => hx, fun x hx => List.mem_cons_of_mem _ hx, fun j e => (by cases e), fun j _ e => by cases e; exact ⟨h.1, List.mem_cons_self⟩⟩
      all_goals exact ⟨is, bs, by simpa [okR] using h, fun x hx => hx, fun x hx => hx, fun i e e' => (by first | (cases e; done) | (cases e'; done)), fun i e e' => (by first | (cases e; done) | (cases e'; done))⟩
    obtain ⟨is', bs', h1, h2, h3, h4, h5⟩ := main
    obtain ⟨g1, g2, g3⟩ := okR_all h1
    refine ⟨fun j l k1 k2 p1 p2 ne e1 e2 e3 e4 => ?_, fun j i e1 e2 => ?_, fun j i e1 e2 => ?_⟩
    · cases j with
      | zero =>
        cases l with
        | zero => exact absurd rfl ne
        | succ l =>
          simp at e1 e2; subst e1 e2
          have e3 : ks[l]? = some k2 := by simpa using e3
          have e4 : ps[l]? = some p2 := by simpa using e4
          cases k <;> cases p <;> cases k2 <;> cases p2 <;> first | rfl | skip
          · exact beq_eq_false_iff_ne.mpr fun z => (g2 l _ e3 e4).1 (z ▸ (h4 _ rfl rfl).2.2)
          · exact beq_eq_false_iff_ne.mpr fun z => g3 l _ e3 e4 (z ▸ (h4 _ rfl rfl).2.2)
      | succ j =>
        have e1 : ks[j]? = some k1 := by simpa using e1
        have e2 : ps[j]? = some p1 := by simpa using e2
        cases l with
        | zero =>
          simp at e3 e4; subst e3 e4
          cases k1 <;> cases p1 <;> cases k <;> cases p <;> first | rfl | skip
          · exact beq_eq_false_iff_ne.mpr fun z => (g2 j _ e1 e2).1 (z ▸ (h4 _ rfl rfl).2.2)
          · exact beq_eq_false_iff_ne.mpr fun z => (g2 j _ e1 e2).2 (z ▸ (h5 _ rfl rfl).2)
        | succ l =>
          exact g1 j l k1 k2 p1 p2 (fun z => ne (by rw [z])) e1 e2 (by simpa using e3) (by simpa using e4)
    · cases j with
      | zero => simp at e1 e2; subst e1 e2; exact ⟨(h4 i rfl rfl).1, (h4 i rfl rfl).2.1⟩
      | succ j =>
        obtain ⟨a, b⟩ := g2 j i (by simpa using e1) (by simpa using e2)
        exact ⟨fun z => a (h2 _ z), fun z => b (h3 _ z)⟩
    · cases j with
      | zero => simp at e1 e2; subst e1 e2; exact (h5 i rfl rfl).1
      | succ j => exact fun z => g3 j i (by simpa using e1) (by simpa using e2) (h2 _ z)
theorem okIo_t {ks : List Kd} {ps : List Pl} (h : okR ks ps [] [] = true) : okIo ks ps = true := by
  obtain ⟨g, _, _⟩ := okR_all h
  unfold okIo
  rw [List.all_eq_true]
  intro j _
  rw [List.all_eq_true]
  intro l _
  by_cases e : j = l
  · simp [e]
  · have : (j == l) = false := by simpa using e
    rw [this, Bool.false_or]
    split
    · rename_i k p k' p' e1 e2 e3 e4
      rw [g j l k k' p p' e e1 e2 e3 e4]; rfl
    · rfl
theorem okR_0 {is bs : List Nat} : okR [] [] is bs = true := Eq.trans rfl rfl
theorem okR_v {ks : List Kd} {p : Pl} {ps : List Pl} {is bs : List Nat} : okR (.v :: ks) (p :: ps) is bs = okR ks ps is bs := by cases p <;> rfl
theorem okR_i {ks : List Kd} {i : Nat} {ps : List Pl} {is bs : List Nat} : okR (.i :: ks) (.s i :: ps) is bs = (!is.contains i && !bs.contains i && okR ks ps (i :: is) bs) := Eq.trans rfl rfl
theorem okR_in {ks : List Kd} {d : D} {ps : List Pl} {is bs : List Nat} : okR (.i :: ks) (.n d :: ps) is bs = okR ks ps is bs := Eq.trans rfl rfl
theorem okR_b {ks : List Kd} {i : Nat} {ps : List Pl} {is bs : List Nat} : okR (.b :: ks) (.s i :: ps) is bs = (!is.contains i && okR ks ps is (i :: bs)) := Eq.trans rfl rfl
theorem okR_bv {ks : List Kd} {d : D} {ps : List Pl} {is bs : List Nat} : okR (.b :: ks) (.v d :: ps) is bs = okR ks ps is bs := Eq.trans rfl rfl

/-! ### M16. dicts -/
section
variable {κ : Type} [DecidableEq κ]
/-- the value at a key -/
def dval (es : List (κ × D)) (k : κ) : Option D := (es.find? fun e => decide (e.1 = k)).map (·.2)
def dput (es : List (κ × D)) (k : κ) (v : D) : List (κ × D) := if (es.any fun e => decide (e.1 = k)) = true then es.map fun e => if e.1 = k then (e.1, v) else e else es ++ [(k, v)]
end
def keyD : D → Option Key
  | .int i => some (.inl i)
  | .str x => some (.inr (S x))
  | _ => none
def keysD : List D → Option (List Key)
  | [] => some []
  | d :: ds => (keyD d).bind fun k => (keysD ds).map fun ks => k :: ks
def gDGet (d k : D) : Option D := match d, k with
  | .dk es, k => (keyD k).bind fun k => dval es k
  | .dt es, .tup ks => (keysD ks).bind fun k => dval es k
  | _, _ => none
def gDHas (d k : D) : Option Bool := match d, k with
  | .dk es, k => (keyD k).map fun k => (dval es k).isSome
  | .dt es, .tup ks => (keysD ks).map fun k => (dval es k).isSome
  | _, _ => none
def gDIn (neg : Bool) (k d : D) : Option D := (gDHas d k).map fun b => .bl (if neg then !b else b)
def gDGet2 (d k x : D) : Option D := match d, k with
  | .dk es, k => (keyD k).map fun k => (dval es k).getD x
  | .dt es, .tup ks => (keysD ks).map fun k => (dval es k).getD x
  | _, _ => none
def gDPut (c k d : D) : Option D := match c, k with
  | .dk es, k => (keyD k).bind fun k => if es.length < sizeLine then some (.dk (dput es k d)) else none
  | .dt es, .tup ks => (keysD ks).bind fun k => if es.length < sizeLine then some (.dt (dput es k d)) else none
  | _, _ => none
section
variable {K : PySem.W.Frag} {ca : Str → Addr} {H : Hp} {B : Addr → Bool}
theorem dval_rep {κ : Type} [DecidableEq κ] : ∀ {kvs : List (κ × V)} {es : List (κ × D)} {k : κ}, kvs.map (·.1) = es.map (·.1) → RepA K ca H (kvs.map (·.2)) (es.map (·.2)) →
    (∀ d, dval es k = some d → ∃ v, valV kvs k = some v ∧ Rep K ca H v d) ∧ (dval es k = none → valV kvs k = none)
  | [], [], k, _, _ => ⟨fun d e => (by cases e), fun _ => rfl⟩
  | [], _ :: _, _, e, _ => by cases e
  | _ :: _, [], _, e, _ => by cases e
  | (a, v) :: kvs, (b, d) :: es, k, e, r => by
    injection e with e1 e2
    simp only at e1
    subst e1
    cases r with
    | cons r1 r2 =>
      obtain ⟨h1, h2⟩ := dval_rep (k := k) e2 r2
      unfold dval valV
      by_cases q : a = k
      · simp only [List.find?_cons, q, decide_true, Option.map_some]
        exact ⟨fun d' e => (by cases e; exact ⟨v, rfl, r1⟩), fun e => (by cases e)⟩
      · simp only [List.find?_cons, q, decide_false]
        exact ⟨h1, h2⟩
theorem dput_rep {κ : Type} [DecidableEq κ] {kvs : List (κ × V)} {es : List (κ × D)} {k : κ} {v : V} {d : D} (e : kvs.map (·.1) = es.map (·.1)) (r : RepA K ca H (kvs.map (·.2)) (es.map (·.2))) (rv : Rep K ca H v d) :
    (putK kvs k v).map (·.1) = (dput es k d).map (·.1) ∧ RepA K ca H ((putK kvs k v).map (·.2)) ((dput es k d).map (·.2)) := by
  have same : ∀ {kvs : List (κ × V)} {es : List (κ × D)}, kvs.map (·.1) = es.map (·.1) → (kvs.any fun kv => decide (kv.1 = k)) = es.any fun e => decide (e.1 = k) := by
    intro kvs
    induction kvs with
    | nil => intro es e; cases es with
      | nil => rfl
      | cons _ _ => cases e
    | cons p kvs ih => intro es e; cases es with
      | nil => cases e
      | cons q es =>
        injection e with e1 e2
        have e1 : p.1 = q.1 := e1
        rw [List.any_cons, List.any_cons, ih e2, e1]
  have go : ∀ {kvs : List (κ × V)} {es : List (κ × D)}, kvs.map (·.1) = es.map (·.1) → RepA K ca H (kvs.map (·.2)) (es.map (·.2)) →
      (kvs.map fun kv => if kv.1 = k then (kv.1, v) else kv).map (·.1) = (es.map fun e => if e.1 = k then (e.1, d) else e).map (·.1) ∧
      RepA K ca H ((kvs.map fun kv => if kv.1 = k then (kv.1, v) else kv).map (·.2)) ((es.map fun e => if e.1 = k then (e.1, d) else e).map (·.2)) := by
    intro kvs
    induction kvs with
    | nil => intro es e r; cases es with
      | nil => exact ⟨rfl, .nil⟩
      | cons _ _ => cases e
    | cons p kvs ih => intro es e r; cases es with
      | nil => cases e
      | cons q es =>
        injection e with e1 e2
        cases r with
        | cons r1 r2 =>
          obtain ⟨i1, i2⟩ := ih e2 r2
          obtain ⟨a, x⟩ := p
          obtain ⟨b, y⟩ := q
          simp only at e1
          subst e1
          by_cases q : a = k
          · simp only [List.map_cons, q, if_true]
            exact ⟨by rw [i1], .cons rv i2⟩
          · simp only [List.map_cons, q, if_false]
            exact ⟨by rw [i1], .cons r1 i2⟩
  unfold putK dput
  rw [same e]
  by_cases c : (es.any fun e => decide (e.1 = k)) = true
  · rw [if_pos c]
    split
    · exact go e r
    · rename_i h; exact absurd c h
  · rw [if_neg c]
    split
    · rename_i h; exact absurd h c
    · simp only [List.map_append, List.map_cons, List.map_nil]
      exact ⟨by rw [e], r.app (.cons rv .nil)⟩
theorem dput_len {κ : Type} [DecidableEq κ] (es : List (κ × D)) (k : κ) (v : D) : (dput es k v).length ≤ es.length + 1 := by
  unfold dput
  split
  · rw [List.length_map]; omega
  · rw [List.length_append]; simp
theorem key_rep {v : V} {d : D} {k : Key} (h : Bor K ca H B v d) (e : keyD d = some k) : v = kV k := by
  cases d <;> first | (cases e; done) | skip
  · cases e; rw [h.int]; rfl
  · cases e; rw [h.str]; rfl
theorem keyR {v : V} {d : D} {k : Key} (h : Rep K ca H v d) (e : keyD d = some k) : v = kV k := by
  cases d <;> first | (cases e; done) | skip
  · cases e; cases h; rfl
  · cases e; cases h; rfl
theorem keysR : ∀ {vs : List V} {ds : List D} {ks : List Key}, RepA K ca H vs ds → keysD ds = some ks → vs = ks.map kV
  | _, _, _, .nil, e => by cases e; rfl
  | _, _, _, .cons h r, e => by
    obtain ⟨k, e1, e2⟩ := Option.bind_eq_some_iff.mp e
    rw [Option.map_eq_some_iff] at e2
    obtain ⟨ks, e3, rfl⟩ := e2
    rw [keyR h e1, keysR r e3]; rfl
/-- what a look into a dict finds -/
theorem dget_ok {v w : V} {d k : D} {b : Bool} (hv : Bor K ca H B v d) (hw : Bor K ca H B w k) (e : gDHas d k = some b) : ∃ a o, v = .ref a ∧ IsD H a ∧ DGet H a w o ∧ o.isSome = b ∧ (∀ z, gDGet d k = some z → ∃ x, o = some x ∧ Rep K ca (mask H B) x z) ∧
    (∀ x, gDGet2 d k x = some x ∨ ∃ z, gDGet d k = some z ∧ gDGet2 d k x = some z) ∧ (o = none → gDGet d k = none) ∧ (∀ x z, gDGet2 d k x = some z → (o = none ∧ z = x) ∨ gDGet d k = some z) := by
  cases d <;> first | (cases k <;> cases e; done) | skip
  · rename_i es
    obtain ⟨a, kvs, rfl, rd, e1, r⟩ := hv.dk
    have e : (keyD k).map (fun k => (dval es k).isSome) = some b := e
    rw [Option.map_eq_some_iff] at e
    obtain ⟨kk, ek, eb⟩ := e
    have ew := key_rep hw ek
    subst ew
    obtain ⟨g1, g2⟩ := dval_rep (k := kk) e1 r
    have G : gDGet (.dk es) k = dval es kk := by show (keyD k).bind _ = _; rw [ek]; rfl
    have G2 : ∀ x, gDGet2 (.dk es) k x = some ((dval es kk).getD x) := fun x => by show (keyD k).map _ = _; rw [ek]; rfl
    refine ⟨a, valV kvs kk, rfl, .inl ⟨kvs, rd⟩, .inl ⟨kvs, kk, rd, rfl, rfl⟩, ?_, fun z hz => ?_, fun x => ?_, fun h => ?_, fun x z hz => ?_⟩
    · rw [← eb]
      cases h : dval es kk with
      | none => rw [g2 h]; rfl
      | some d => obtain ⟨v, e, _⟩ := g1 d h; rw [e]; rfl
    · rw [G] at hz; exact g1 z hz
    · rw [G, G2]; cases h : dval es kk with
      | none => exact .inl rfl
      | some d => exact .inr ⟨d, rfl, rfl⟩
    · rw [G]; cases q : dval es kk with
      | none => rfl
      | some d => obtain ⟨v, e, _⟩ := g1 d q; rw [e] at h; cases h
    · rw [G2] at hz; rw [G]; cases h : dval es kk with
      | none => rw [h] at hz; cases hz; exact .inl ⟨g2 h, rfl⟩
      | some d => rw [h] at hz; cases hz; exact .inr rfl
  · rename_i es
    cases k <;> first | (cases e; done) | skip
    rename_i ks
    obtain ⟨a, kvs, rfl, rd, e1, r⟩ := hv.dt
    obtain ⟨b', xs, rfl, hb, rk⟩ := hw.tup
    have e : (keysD ks).map (fun k => (dval es k).isSome) = some b := e
    rw [Option.map_eq_some_iff] at e
    obtain ⟨kk, ek, eb⟩ := e
    have ew := keysR rk ek
    subst ew
    obtain ⟨g1, g2⟩ := dval_rep (k := kk) e1 r
    have G : gDGet (.dt es) (.tup ks) = dval es kk := by show (keysD ks).bind _ = _; rw [ek]; rfl
    have G2 : ∀ x, gDGet2 (.dt es) (.tup ks) x = some ((dval es kk).getD x) := fun x => by show (keysD ks).map _ = _; rw [ek]; rfl
    refine ⟨a, valV kvs kk, rfl, .inr ⟨kvs, rd⟩, .inr ⟨kvs, kk, b', rd, rfl, mask_le _ _ hb, rfl⟩, ?_, fun z hz => ?_, fun x => ?_, fun h => ?_, fun x z hz => ?_⟩
    · rw [← eb]
      cases h : dval es kk with
      | none => rw [g2 h]; rfl
      | some d => obtain ⟨v, e, _⟩ := g1 d h; rw [e]; rfl
    · rw [G] at hz; exact g1 z hz
    · rw [G, G2]; cases h : dval es kk with
      | none => exact .inl rfl
      | some d => exact .inr ⟨d, rfl, rfl⟩
    · rw [G]; cases q : dval es kk with
      | none => rfl
      | some d => obtain ⟨v, e, _⟩ := g1 d q; rw [e] at h; cases h
    · rw [G2] at hz; rw [G]; cases h : dval es kk with
      | none => rw [h] at hz; cases hz; exact .inl ⟨g2 h, rfl⟩
      | some d => rw [h] at hz; cases hz; exact .inr rfl
theorem gDGet_has {d k z : D} (h : gDGet d k = some z) : gDHas d k = some true := by
  cases d <;> first | (cases k <;> cases h; done) | skip
  · obtain ⟨kk, e1, e2⟩ := Option.bind_eq_some_iff.mp (show (keyD k).bind _ = some z from h)
    show (keyD k).map _ = _
    rw [e1, Option.map_some, e2]; rfl
  · cases k <;> first | (cases h; done) | skip
    obtain ⟨kk, e1, e2⟩ := Option.bind_eq_some_iff.mp (show (keysD _).bind _ = some z from h)
    show (keysD _).map _ = _
    rw [e1, Option.map_some, e2]; rfl
theorem gDGet2_has {d k x z : D} (h : gDGet2 d k x = some z) : ∃ b, gDHas d k = some b := by
  cases d <;> first | (cases k <;> cases h; done) | skip
  · obtain ⟨kk, e1, e2⟩ := Option.map_eq_some_iff.mp (show (keyD k).map _ = some z from h)
    exact ⟨_, by show (keyD k).map _ = _; rw [e1]; rfl⟩
  · cases k <;> first | (cases h; done) | skip
    obtain ⟨kk, e1, e2⟩ := Option.map_eq_some_iff.mp (show (keysD _).map _ = some z from h)
    exact ⟨_, by show (keysD _).map _ = _; rw [e1]; rfl⟩
end
section
variable {N : Cn} {td ty tx tv : TE} {fa fb : MM Pl} {f f2 : MM D}
theorem se_dget (ha : SPl N td fa) (hb : SPl N ty fb) : SE N (tDGet td ty) (m2 gDGet fa fb) :=
  se_2 (r := fun x y H Q => ∃ a v, x = .ref a ∧ DGet H a y (some v) ∧ Q v H) (fun H B v w d e z Q lv hv hw hg q => by
    obtain ⟨a, o, rfl, _, g, _, h1, _⟩ := dget_ok hv hw (gDGet_has hg)
    obtain ⟨x, rfl, rx⟩ := h1 z hg
    exact ⟨a, x, rfl, g, q x H SameH.rfl rx⟩) ha hb
theorem se_din (ha : SPl N ty fa) (hb : SPl N td fb) : SE N (tDIn ty td) (m2 (gDIn false) fa fb) :=
  se_2 (r := fun y x H Q => ∃ a o, x = .ref a ∧ DGet H a y o ∧ Q (.bl o.isSome) H) (fun H B v w d e z Q lv hv hw hg q => by
    obtain ⟨b, eb, rfl⟩ := Option.map_eq_some_iff.mp hg
    obtain ⟨a, o, rfl, _, g, h0, _⟩ := dget_ok hw hv eb
    refine ⟨a, o, rfl, g, ?_⟩
    rw [h0]
    exact q _ H SameH.rfl (.bl _)) ha hb
theorem se_dnin (ha : SPl N ty fa) (hb : SPl N td fb) : SE N (tDNotIn ty td) (m2 (gDIn true) fa fb) :=
  se_2 (r := fun y x H Q => ∃ a o, x = .ref a ∧ DGet H a y o ∧ Q (.bl (!o.isSome)) H) (fun H B v w d e z Q lv hv hw hg q => by
    obtain ⟨b, eb, rfl⟩ := Option.map_eq_some_iff.mp hg
    obtain ⟨a, o, rfl, _, g, h0, _⟩ := dget_ok hw hv eb
    refine ⟨a, o, rfl, g, ?_⟩
    rw [h0]
    exact q _ H SameH.rfl (.bl _)) ha hb
/-- d.get(k, x) -/
def mDGet2 (fa fb : MM Pl) (f : MM D) : MM D := fun ρ => (fa ρ).bind fun x => (Rs.of (plD x.2 x.1)).bind fun d0 => if isDct d0 = true then (fb x.2).bind fun y => (f y.2).bind fun z => (Rs.of (plD z.2 x.1)).bind fun d => (Rs.of (plD z.2 y.1)).bind fun k => (Rs.of (gDGet2 d k z.1)).bind fun u => .ok (u, z.2) else .no
theorem isD_of {K : PySem.W.Frag} {ca : Str → Addr} {H : Hp} {B : Addr → Bool} {v : V} {d : D} (h : Bor K ca H B v d) (e : isDct d = true) : ∃ a, v = .ref a ∧ IsD H a := by
  cases d <;> first | (cases e; done) | skip
  · obtain ⟨a, kvs, rfl, rd, _⟩ := h.dk; exact ⟨a, rfl, .inl ⟨kvs, rd⟩⟩
  · obtain ⟨a, kvs, rfl, rd, _⟩ := h.dt; exact ⟨a, rfl, .inr ⟨kvs, rd⟩⟩
theorem se_dget2 (ha : SPl N td fa) (hb : SPl N ty fb) (hx : SE N tx f) : SE N (tDGet2 td ty tx) (mDGet2 fa fb f) := by
  intro B ρ σ H Q I hp
  unfold tDGet2
  refine Post.next back_E ha I hp fun v p ρ1 B1 H1 I1 s1 r1 q => ?_
  obtain ⟨d0, e0, q⟩ := q.opt
  obtain ⟨ho, q⟩ := q.ofOk
  obtain ⟨a, rfl, ia⟩ := isD_of (bor_of I1 r1.1 e0) ho
  refine ⟨a, rfl, ia, ?_⟩
  refine Post.next back_E hb I1 q fun w p' ρ2 B2 H2 I2 s2 r2 q => ?_
  refine Post.next back_E hx I2 q fun x z ρ3 B3 H3 I3 s3 r3 q => ?_
  obtain ⟨d, ed, q⟩ := q.opt
  obtain ⟨k, ek, q⟩ := q.opt
  obtain ⟨u, eu, q⟩ := q.opt
  obtain ⟨b, eb⟩ := gDGet2_has eu
  obtain ⟨a', o, q1, _, g, _, h1, _, _, h4⟩ := dget_ok (bor_of I3 (r1.1.up (s2.tr s3) I1) ed) (bor_of I3 (r2.1.up s3 I2) ek) eb
  cases q1
  refine ⟨o, g, ?_⟩
  rcases h4 z u eu with ⟨rfl, rfl⟩ | h
  · exact q.ok I3 Stp.rfl r3
  · obtain ⟨y, rfl, ry⟩ := h1 u h
    exact q.ok I3 Stp.rfl ry
def mDNewK : MM D := fun ρ => .ok (.dk [], ρ)
def mDNewT : MM D := fun ρ => .ok (.dt [], ρ)
theorem sn_dnewK : SN N tDNewK mDNewK := by
  intro B ρ σ H Q I hp p hn
  exact Post.mk hp I hn (SameH.new hn) upd_same ⟨rfl, .nil⟩
theorem sn_dnewT : SN N tDNewT mDNewT := by
  intro B ρ σ H Q I hp p hn
  exact Post.mk hp I hn (SameH.new hn) upd_same ⟨rfl, .nil⟩
theorem ct_dk {K : PySem.W.Frag} {ca : Str → Addr} {H : Hp} {o : HO} {es : List (Key × D)} (c : Ct K ca H o (.dk es)) : ∃ kvs, o = .dK kvs ∧ kvs.map (·.1) = es.map (·.1) ∧ RepA K ca H (kvs.map (·.2)) (es.map (·.2)) := by
  cases o <;> first | exact c.elim | exact ⟨_, rfl, c.1, c.2⟩
theorem ct_dt {K : PySem.W.Frag} {ca : Str → Addr} {H : Hp} {o : HO} {es : List (List Key × D)} (c : Ct K ca H o (.dt es)) : ∃ kvs, o = .dT kvs ∧ kvs.map (·.1) = es.map (·.1) ∧ RepA K ca H (kvs.map (·.2)) (es.map (·.2)) := by
  cases o <;> first | exact c.elim | exact ⟨_, rfl, c.1, c.2⟩
theorem g_dput {K : PySem.W.Frag} {ca : Str → Addr} : MSub K ca (fun x y v H Q => ∃ a H4, x = .ref a ∧ DPut H a y v H4 ∧ Q H4) gDPut := by
  intro H B a o c k kd v d c' Q lv hH hc hk hd hg q
  cases c <;> first | (cases kd <;> cases hg; done) | skip
  · rename_i es
    obtain ⟨kvs, rfl, e1, r⟩ := ct_dk hc
    obtain ⟨kk, ek, hg⟩ := Option.bind_eq_some_iff.mp (show (keyD kd).bind _ = some c' from hg)
    obtain ⟨hl, rfl⟩ := ifo hg
    have := key_rep hk ek
    subst this
    have hl' : kvs.length < sizeLine := by have := congrArg List.length e1; simp at this; omega
    exact ⟨a, _, rfl, .inl ⟨kvs, kk, hH, rfl, hl', rfl⟩, q _ (dput_rep e1 r hd)⟩
  · cases kd <;> first | (cases hg; done) | skip
    rename_i es ks
    obtain ⟨kvs, rfl, e1, r⟩ := ct_dt hc
    obtain ⟨kk, ek, hg⟩ := Option.bind_eq_some_iff.mp (show (keysD ks).bind _ = some c' from hg)
    obtain ⟨hl, rfl⟩ := ifo hg
    obtain ⟨b', xs, rfl, hb, rk⟩ := hk.tup
    have ew := keysR rk ek
    subst ew
    have hl' : kvs.length < sizeLine := by have := congrArg List.length e1; simp at this; omega
    exact ⟨a, _, rfl, .inr ⟨kvs, kk, b', hH, rfl, mask_le _ _ hb, hl', rfl⟩, q _ (dput_rep e1 r hd)⟩
theorem ss_dput {i : Nat} (h : SE N tv f) (hi : SPl N ty fb) : SS N (sDPut (tVar i) ty tv) (sSub gDPut i fb f) :=
  ss_sub (r := fun x y v H Q => ∃ a H4, x = .ref a ∧ DPut H a y v H4 ∧ Q H4) g_dput h hi
end
/-! {k: v, ..}: a written dict with written keys -/
def rKV : Rel (List (D × D)) (List (V × V)) := fun N _ _ _ _ B' _ H' ps ds => RepA N.K N.ca (mask H' B') (ps.map (·.1)) (ds.map (·.1)) ∧ RepA N.K N.ca (mask H' B') (ps.map (·.2)) (ds.map (·.2))
theorem back_KV : Back rKV := fun _ _ _ _ _ _ _ _ _ _ _ _ _ _ r => r
def mPs : List (MM D × MM D) → MM (List (D × D))
  | [], ρ => .ok ([], ρ)
  | (a, b) :: r, ρ => (a ρ).bind fun x => (b x.2).bind fun y => (mPs r y.2).bind fun z => .ok ((x.1, y.1) :: z.1, z.2)
def pairK : List (D × D) → Option (List (Key × D))
  | [] => some []
  | (a, b) :: r => (keyD a).bind fun k => (pairK r).map fun ks => (k, b) :: ks
def mergeD (es more : List (Key × D)) : List (Key × D) := more.foldl (fun acc e => dput acc e.1 e.2) es
def mDisp (ps : List (MM D × MM D)) : MM D := fun ρ => (mPs ps ρ).bind fun x => (Rs.of (pairK x.1)).bind fun es => if es.length ≤ 15 then .ok (.dk (mergeD [] es), x.2) else .no
section
variable {N : Cn}
abbrev SKV (N : Cn) (t : List (TE × TE)) (f : MM (List (D × D))) : Prop := Jd rKV N (tPairs t) f
theorem skv_nil : SKV N [] (mPs []) := fun B ρ σ H Q I hp => hp.ok (y := []) I Stp.rfl ⟨.nil, .nil⟩
theorem skv_cons {tk tv : TE} {a b : MM D} {tr : List (TE × TE)} {ps : List (MM D × MM D)} (ha : SE N tk a) (hb : SE N tv b) (hr : SKV N tr (mPs ps)) : SKV N ((tk, tv) :: tr) (mPs ((a, b) :: ps)) := by
  intro B ρ σ H Q I hp
  show tk σ H fun x H1 => tv σ H1 fun y H2 => tPairs tr σ H2 fun ps H3 => Q ((x, y) :: ps) H3
  unfold mPs at hp
  refine Post.next back_KV ha I hp fun v d ρ1 B1 H1 I1 s1 r1 q => ?_
  refine Post.next back_KV hb I1 q fun w e ρ2 B2 H2 I2 s2 r2 q => ?_
  refine Post.next back_KV hr I2 q fun us ds ρ3 B3 H3 I3 s3 r3 q => ?_
  exact q.ok I3 Stp.rfl ⟨.cons (r1.up (s2.sm.tr s3.sm)) r3.1, .cons (r2.up s3.sm) r3.2⟩
theorem pair_rep {K : PySem.W.Frag} {ca : Str → Addr} {H : Hp} : ∀ {ps : List (V × V)} {ds : List (D × D)} {es : List (Key × D)}, RepA K ca H (ps.map (·.1)) (ds.map (·.1)) → RepA K ca H (ps.map (·.2)) (ds.map (·.2)) → pairK ds = some es →
    ∃ kvs : List (Key × V), ps = kvs.map (fun kv => (kV kv.1, kv.2)) ∧ kvs.map (·.1) = es.map (·.1) ∧ RepA K ca H (kvs.map (·.2)) (es.map (·.2))
  | [], [], _, _, _, e => by cases e; exact ⟨[], rfl, rfl, .nil⟩
  | [], _ :: _, _, h, _, _ => by cases h
  | _ :: _, [], _, h, _, _ => by cases h
  | (x, y) :: ps, (a, b) :: ds, es, h1, h2, e => by
    obtain ⟨k, e1, e2⟩ := Option.bind_eq_some_iff.mp e
    rw [Option.map_eq_some_iff] at e2
    obtain ⟨es', e3, rfl⟩ := e2
    cases h1 with
    | cons r1 h1 =>
      cases h2 with
      | cons r2 h2 =>
        obtain ⟨kvs, rfl, g1, g2⟩ := pair_rep h1 h2 e3
        have := keyR r1 e1
        simp only at this
        subst this
        exact ⟨(k, y) :: kvs, rfl, by simp [g1], .cons r2 g2⟩
theorem merge_rep {K : PySem.W.Frag} {ca : Str → Addr} {H : Hp} : ∀ {more : List (Key × V)} {ms : List (Key × D)} {kvs : List (Key × V)} {es : List (Key × D)}, more.map (·.1) = ms.map (·.1) → RepA K ca H (more.map (·.2)) (ms.map (·.2)) → kvs.map (·.1) = es.map (·.1) → RepA K ca H (kvs.map (·.2)) (es.map (·.2)) →
    (mergeK kvs more).map (·.1) = (mergeD es ms).map (·.1) ∧ RepA K ca H ((mergeK kvs more).map (·.2)) ((mergeD es ms).map (·.2))
  | [], [], _, _, _, _, e, r => ⟨e, r⟩
  | [], _ :: _, _, _, e, _, _, _ => by cases e
  | _ :: _, [], _, _, e, _, _, _ => by cases e
  | p :: more, m :: ms, kvs, es, e1, r1, e2, r2 => by
    injection e1 with e1 e1'
    cases r1 with
    | cons r1 r1' =>
      obtain ⟨a, x⟩ := p
      obtain ⟨b, y⟩ := m
      have e1 : a = b := e1
      subst e1
      obtain ⟨g1, g2⟩ := dput_rep (k := a) e2 r2 r1
      show (mergeK (putK kvs a x) more).map (·.1) = (mergeD (dput es a y) ms).map (·.1) ∧ RepA K ca H ((mergeK (putK kvs a x) more).map (·.2)) ((mergeD (dput es a y) ms).map (·.2))
      exact merge_rep e1' r1' g1 g2
theorem sn_disp {tr : List (TE × TE)} {ps : List (MM D × MM D)} (h : SKV N tr (mPs ps)) : SN N (tDisp tr) (mDisp ps) := by
  intro B ρ σ H Q I hp p hn
  have I1 := I.newp (H' := upd H p (.dK [])) hn (SameH.new hn) (by rw [upd_same]; intro z; cases z)
  have s1 : Stp N σ B ρ H (addB B p) ρ (upd H p (.dK [])) := stp_new hn (SameH.new hn)
  have f1 : Free ρ σ p := I.free hn
  have h0 := I.no0 hn
  unfold mDisp at hp
  refine h (addB B p) ρ σ _ _ I1 ?_
  cases em : mPs ps ρ with
  | no => rw [em] at hp; exact hp
  | er c fs => rw [em] at hp; exact hp
  | ok x =>
    rw [em] at hp
    intro us B2 H2 I2 s2 r2
    have hp : Post rN N σ B ρ H ((Rs.of (pairK x.1)).bind fun es => if es.length ≤ 15 then .ok (.dk (mergeD [] es), x.2) else .no) Q := hp
    obtain ⟨es, ee, q⟩ := hp.opt
    obtain ⟨hl, q⟩ := q.iff
    obtain ⟨e2, b2, f2⟩ := s2.tm p _ add_self f1 (I.notC h0) upd_same
    obtain ⟨kvs, rfl, g1, g2⟩ := pair_rep r2.1 r2.2 ee
    obtain ⟨m1, m2⟩ := merge_rep (kvs := []) (es := []) g1 g2 rfl .nil
    refine ⟨e2, kvs, rfl, by have := congrArg List.length g1; simp at this; omega, ?_⟩
    have hm : mask (upd H2 p (.dK (mergeK [] kvs))) B2 = mask H2 B2 := mask_upd b2
    have I3 : Iv N B2 x.2 σ (upd H2 p (.dK (mergeK [] kvs))) := I2.setTmp h0 b2 f2
    refine q (.ref p) B2 _ I3 ⟨?_, fun a o k1 k2 k3 k4 => ?_⟩ ⟨⟨p, _, rfl, h0, b2, f2, upd_same, by rw [hm]; exact ⟨m1, m2⟩⟩, notOld_new hn⟩
    · rw [hm]; exact s1.sm.tr s2.sm
    · obtain ⟨a1, a2, a3⟩ := (s1.tr s2).tm a o k1 k2 k3 k4
      exact ⟨by rw [upd_ne (ne_of_none k4 hn)]; exact a1, a2, a3⟩
end

/-! ### 0b. classes, exceptions of our own, defs that raise -/
structure ExI (K : PySem.W.Frag) (C : Addr) (qual : Str) (st : Stmt) (ps : List Str) : Prop where
  ex : ∃ (f : Addr) (fd : FuncData), PySem.W.findIn K (.ref C) "__init__" = some (some (.ref f)) ∧ PySem.W.typeIn K (.ref f) = some (.type "function") ∧ Fun K "__init__" qual st f fd ∧ Binds K fd ps []
structure Ini (K : PySem.W.Frag) (C : Addr) (qual : Str) (st : Stmt) (ps : List Str) : Prop where
  ex : ∃ (f : Addr) (fd : FuncData), Mk K C f ∧ Fun K "__init__" qual st f fd ∧ Binds K fd ps []
structure Mth (K : PySem.W.Frag) (C : Addr) (m qual : Str) (st : Stmt) (ps : List Str) : Prop where
  ex : ∃ (f : Addr) (fd : FuncData), Meth K C m f ∧ Fun K m qual st f fd ∧ Binds K fd ps []
section
variable (P : Program) (w : World) (K : PySem.W.Frag) (mg : Str → Option Value) (base : Heap)
structure CalX (k : Nat) (x : Str) (sp : Sp) : Prop where
  ex : ∃ (f : Addr) (fd : FuncData) (ps : List Str), FnOk P w K mg base (L2.CX P w) k f fd ps sp ∧ mg x = some (.ref f) ∧ PySem.W.keepIn K (.ref f) = true ∧ Binds K fd ps []
structure MetX (k : Nat) (C : Addr) (m : Str) (sp : Sp) : Prop where
  ex : ∃ (f : Addr) (fd : FuncData) (ps : List Str), Cls K C ∧ Meth K C m f ∧ FnOk P w K mg base (L2.CX P w) k f fd ps sp ∧ Binds K fd ps []
structure MakX (k : Nat) (C : Addr) (sp : Sp) : Prop where
  ex : ∃ (f : Addr) (fd : FuncData) (ps : List Str), Mk K C f ∧ FnOk P w K mg base (L2.CX P w) k f fd ps sp ∧ Binds K fd ps []
structure ExIni (k : Nat) (C : Addr) (sp : Sp) : Prop where
  ex : ∃ (f : Addr) (fd : FuncData) (ps : List Str), PySem.W.findIn K (.ref C) "__init__" = some (some (.ref f)) ∧ PySem.W.typeIn K (.ref f) = some (.type "function") ∧ FnOk P w K mg base CX0 k f fd ps sp ∧ Binds K fd ps []
end
section
variable {P : Program} {w : World} {K : PySem.W.Frag} {mg : Str → Option Value} {base : Heap}
/-- what a body's proof is, nothing raised | raised -/
def Body0 (P : Program) (w : World) (K : PySem.W.Frag) (mg : Str → Option Value) (base : Heap) (k : Nat) (qual : Str) (st : Stmt) (N : List Str) (sp : Sp) : Prop :=
  ∀ (f : Addr) (cdv : Value) (A : Around) (outer : List Env) (s : Shared) (H : Hp) (vs : List V) (Q : VK) (E : XK), Room k (A.deeper (envOfC qual (defScope st) s.heap.objs.size f cdv)) → sp vs H Q E →
    ∃ t, PSs (cxOf CX0 P w K mg base N qual (defScope st) f cdv A outer s H E).nox (defBody st) t ∧ t { nx := fun _ H' => Q .non H', rt := Q } (start N vs) H
def BodyX (P : Program) (w : World) (K : PySem.W.Frag) (mg : Str → Option Value) (base : Heap) (k : Nat) (qual : Str) (st : Stmt) (N : List Str) (sp : Sp) : Prop :=
  ∀ (f : Addr) (cdv : Value) (A : Around) (outer : List Env) (s : Shared) (H : Hp) (vs : List V) (Q : VK) (E : XK), Room k (A.deeper (envOfC qual (defScope st) s.heap.objs.size f cdv)) → sp vs H Q E →
    ∃ t, PSs (cxOf (L2.CX P w) P w K mg base N qual (defScope st) f cdv A outer s H E) (defBody st) t ∧ t { nx := fun _ H' => Q .non H', rt := Q } (start N vs) H
theorem met_of {C : Addr} {m qual : Str} {st : Stmt} {N ps : List Str} {k : Nat} {sp : Sp} (c : Cls K C) (D : Mth K C m qual st ps) (S : FnScope N ps (defScope st)) (len : ∀ vs H Q E, sp vs H Q E → vs.length = ps.length)
    (hb : Body0 P w K mg base k qual st N sp) : C8.Met P w K mg base (k + 1) C m sp [] := by
  obtain ⟨f, fd, M, F, b⟩ := D.ex
  exact ⟨f, fd, ps, [], c, M, F.ok S len fun cdv A outer s H vs Q E hr h => hb f cdv A outer s H vs Q E hr h, b, .nil⟩
theorem metX_of {C : Addr} {m qual : Str} {st : Stmt} {N ps : List Str} {k : Nat} {sp : Sp} (c : Cls K C) (D : Mth K C m qual st ps) (S : FnScope N ps (defScope st)) (len : ∀ vs H Q E, sp vs H Q E → vs.length = ps.length)
    (hb : BodyX P w K mg base k qual st N sp) : MetX P w K mg base (k + 1) C m sp := by
  obtain ⟨f, fd, M, F, b⟩ := D.ex
  exact ⟨f, fd, ps, c, M, F.okX S len fun cdv A outer s H vs Q E hr h => hb f cdv A outer s H vs Q E hr h, b⟩
theorem calX_of {x : Str} {st : Stmt} {N ps : List Str} {k : Nat} {sp : Sp} (D : Dfn K mg x st ps) (S : FnScope N ps (defScope st)) (len : ∀ vs H Q E, sp vs H Q E → vs.length = ps.length)
    (hb : BodyX P w K mg base k x st N sp) : CalX P w K mg base (k + 1) x sp := by
  obtain ⟨f, fd, F, hm, b⟩ := D.ex
  exact ⟨f, fd, ps, F.okX S len fun cdv A outer s H vs Q E hr h => hb f cdv A outer s H vs Q E hr h, hm, F.kp, b⟩
theorem makX_of {C : Addr} {qual : Str} {st : Stmt} {N ps : List Str} {k : Nat} {sp : Sp} (D : Ini K C qual st ps) (S : FnScope N ps (defScope st)) (len : ∀ vs H Q E, sp vs H Q E → vs.length = ps.length)
    (hb : BodyX P w K mg base k qual st N sp) : MakX P w K mg base (k + 1) C sp := by
  obtain ⟨f, fd, M, F, b⟩ := D.ex
  exact ⟨f, fd, ps, M, F.okX S len fun cdv A outer s H vs Q E hr h => hb f cdv A outer s H vs Q E hr h, b⟩
theorem exi_of {C : Addr} {qual : Str} {st : Stmt} {N ps : List Str} {k : Nat} {sp : Sp} (D : ExI K C qual st ps) (S : FnScope N ps (defScope st)) (len : ∀ vs H Q E, sp vs H Q E → vs.length = ps.length)
    (hb : Body0 P w K mg base k qual st N sp) : ExIni P w K mg base (k + 1) C sp := by
  obtain ⟨f, fd, h1, h2, F, b⟩ := D.ex
  exact ⟨f, fd, ps, h1, h2, F.ok S len fun cdv A outer s H vs Q E hr h => hb f cdv A outer s H vs Q E hr h, b⟩
end
section
variable {X : Cx} {k j : Nat} {C : Addr} {x m f : Str} {sp : Sp} {E : XK} {p pos apos pos2 : Pos} {e o : Expr} {es : List Expr} {ta : TE} {t : TA} {W : WX}
theorem pe_cX (c : CalX X.prog X.w X.K X.mg X.base k x sp) (hr : Room j X.A) (hk : k ≤ j) (hg : Gl X x) (hx : Passes (L2.CX X.prog X.w) X E) (ha : PA X (e :: es) t) (hdb : (x == ("__debug__" : Str)) = false := by decide)
    (he : starEach (e :: es) X.env = (false, eval e X.env) :: starEach es X.env := by rfl) (hpl : (backTo pos (starEach es X.env)).any (·.1) = false := by rfl) : PE X (.Call (.Name x p) (e :: es) [] pos) (tCall sp [] E t) := by
  obtain ⟨f, fd, ps, F, hm, kp, b⟩ := c.ex
  exact pe_call F (hr.mono hk) hg hm kp b .nil hx ha hdb he hpl
theorem pe_mkX (c : MakX X.prog X.w X.K X.mg X.base k C sp) (hr : Room j X.A) (hk : k + 1 ≤ j) (hg : Gl X x) (hm : X.mg x = some (.ref C)) (hx : Passes (L2.CX X.prog X.w) X E) (ha : PA X (e :: es) t) (hdb : (x == ("__debug__" : Str)) = false := by decide)
    (he : starEach (e :: es) X.env = (false, eval e X.env) :: starEach es X.env := by rfl) (hpl : (backTo pos (starEach es X.env)).any (·.1) = false := by rfl) : PE X (.Call (.Name x p) (e :: es) [] pos) (tMake C sp [] E t) := by
  obtain ⟨f, fd, ps, M, F, b⟩ := c.ex
  exact pe_make M F (hr.mono hk) hg hm b .nil hx ha hdb he hpl
theorem pe_mtX {pl : Sem Bool} (c : MetX X.prog X.w X.K X.mg X.base k C m sp) (hr : Room j X.A) (hk : k ≤ j) (he : PE X o ta) (hx : Passes (L2.CX X.prog X.w) X E) (ha : PA X (e :: es) t)
    (hst : starEach (e :: es) X.env = (false, eval e X.env) :: starEach es X.env := by rfl) (hpl : (backTo pos (starEach es X.env)).any (·.1) = false := by rfl)
    (ht : eval (.Call (.Attribute o m apos) (e :: es) [] pos) X.env = (do
      let ov ← eval o X.env; standAt apos.atName; let (f, first) ← holding [ov] (getMethod ov m pl); callWith pos f first (backTo pos (starEach (e :: es) X.env)) (backToKw pos (keywordEach [] X.env))) := by rfl) :
    PE X (.Call (.Attribute o m apos) (e :: es) [] pos) (tMeth C m sp [] E ta t) := by
  obtain ⟨f, fd, ps, hc, hm, F, b⟩ := c.ex
  exact pe_meth (pl := pl) he hc hm F (hr.mono hk) b .nil hx ha hst hpl ht
theorem pe_mtX0 {pl : Sem Bool} (c : MetX X.prog X.w X.K X.mg X.base k C m sp) (hr : Room j X.A) (hk : k ≤ j) (he : PE X o ta) (hx : Passes (L2.CX X.prog X.w) X E)
    (ht : eval (.Call (.Attribute o m apos) [] [] pos) X.env = (do
      let ov ← eval o X.env; standAt apos.atName; let (f, first) ← holding [ov] (getMethod ov m pl); callWith pos f first (backTo pos (starEach [] X.env)) (backToKw pos (keywordEach [] X.env))) := by rfl) :
    PE X (.Call (.Attribute o m apos) [] [] pos) (tMeth C m sp [] E ta tNil) := by
  obtain ⟨f, fd, ps, hc, hm, F, b⟩ := c.ex
  exact pe_meth0 (pl := pl) he hc hm F (hr.mono hk) b .nil hx ht
/-- the __init__ of an error with one field -/
def spExI (C : Addr) (f : Str) : Sp := fun vs H Q _ => ∃ (a : Addr) (v : V), vs = [.ref a, v] ∧ H a = some (exo a C none) ∧ ∀ dx, H dx = none → dx ≠ a → Q .non (upd (upd H dx (exd dx [(f, v)])) a (exo a C (some dx)))
/-- raise X(e) -/
theorem ps_bad (hc : X.calm = true) (tk : Takes X W) (T : OexC X.K C) (hm : X.mg x = some (.ref C)) (c : ExIni X.prog X.w X.K X.mg X.base k C (spExI C f)) (hr : Room j X.A) (hk : k + 1 ≤ j) (hg : Gl X x) (ha : PA X (e :: []) t)
    (hdb : (x == ("__debug__" : Str)) = false := by decide) (he : starEach (e :: []) X.env = (false, eval e X.env) :: starEach [] X.env := by rfl) (hpl : (backTo pos (starEach [] X.env)).any (·.1) = false := by rfl) :
    PS X (.Raise (some (.Call (.Name x p) (e :: []) [] pos)) none pos2) (fun _ σ H => tMkO C (spExI C f) [] t σ H fun cls d H' => W cls d σ H') := by
  obtain ⟨g, fd, ps, iC, tI, F, b⟩ := c.ex
  exact ps_raise hc tk (pmk_oex T iC tI F (hr.mono hk) b .nil pass0 hg hm ha hdb he hpl)
theorem bad_k {H1 : Hp} {v : V} {Q : XK} (h : ∀ d H', H1 d = none → Same H1 H' → H' d = some (.xd [(f, v)]) → Q (.ref C) (some d) H') :
    [v].length ≤ 1000 ∧ ∀ a, H1 a = none → spExI C f (.ref a :: ([v] ++ [])) (upd H1 a (exo a C none))
      (fun u H2 => u = .non ∧ ∃ (d : Addr) (fs : List (Str × V)), H2 a = some (exo a C (some d)) ∧ H2 d = some (exd d fs) ∧ H1 d = none ∧ Q (.ref C) (some d) (upd (del H2 a) d (.xd fs))) (fun _ _ _ => False) := by
  refine ⟨by show 1 ≤ 1000; decide, fun a ha => ⟨a, v, rfl, upd_same, fun dx hdx ne => ⟨rfl, dx, [(f, v)], upd_same, by rw [upd_ne ne]; exact upd_same, ?_, ?_⟩⟩⟩
  · rw [upd_ne ne] at hdx
    exact hdx
  · rw [upd_ne ne] at hdx
    refine h dx _ hdx (fun b o e => ?_) upd_same
    have hb : b ≠ a := ne_of_none e ha
    rw [upd_ne (ne_of_none e hdx), del_ne hb, upd_ne hb, upd_ne (ne_of_none e hdx), upd_ne hb]
    exact e
end
theorem putF_ne {f g : Str} {v x : V} {l : List (Str × V)} (h : ¬ g = f) : putF f v ((g, x) :: l) = (g, x) :: putF f v l := if_neg h
theorem putF_eq {f : Str} {v x : V} {l : List (Str × V)} : putF f v ((f, x) :: l) = (f, v) :: l := if_pos rfl
theorem look_ne {f g : Str} {x : V} {l : List (Str × V)} (h : ¬ f = g) : ((g, x) :: l).lookup f = l.lookup f := by
  have e : (f == g) = false := by simpa using h
  simp [List.lookup, e]
theorem look_eq {f : Str} {x : V} {l : List (Str × V)} : ((f, x) :: l).lookup f = some x := by simp [List.lookup]
theorem putF_len (f : Str) (v : V) : ∀ l : List (Str × V), (putF f v l).length ≤ l.length + 1
  | [] => Nat.le_refl _
  | (g, x) :: l => by
    unfold putF
    split
    · simp
    · have := putF_len f v l
      simp
      omega
theorem few (f : Str) (v : V) {l : List (Str × V)} {n : Nat} (h : l.length ≤ n) : (putF f v l).length ≤ n + 1 := Nat.le_trans (putF_len f v l) (Nat.succ_le_succ h)
/-! ### 0c. further rules: list(text), tuple * 0, tuple * 1 -/
theorem tup_mul01 (l : Addr) (items : Array Value) (n : Nat) (dd : Option Addr) (sl : Array (Option Value)) (u : Tok) (ne : items.isEmpty = false) :
    Meets (Builtin.«tuple.__mul__» ⟨[.ref l, .int 1 u], []⟩) (fun _ R s => s.heap.get? l = some { cls := .type "tuple", dict := dd, data := .seq items n, slots := sl } ∧ R (.ok (.ret (Value.ref l))) s) :=
  .of_wp fun prog w A R s h => by
    obtain ⟨hp, g, d, tk, os⟩ := s
    obtain ⟨hl, h⟩ := h
    have f1 := AutoSeq1.idx_int
    wp_walk using wpAny_loadPart' hl
    exact ⟨_, rfl, h⟩
theorem tup_mul00 (l : Addr) (items : Array Value) (n : Nat) (dd : Option Addr) (sl : Array (Option Value)) (u : Tok) (ne : items.isEmpty = false) :
    Meets (Builtin.«tuple.__mul__» ⟨[.ref l, .int 0 u], []⟩) (fun _ R s => s.heap.get? l = some { cls := .type "tuple", dict := dd, data := .seq items n, slots := sl } ∧
      R (.ok (.ret (Value.ref s.heap.objs.size))) { s with heap := s.heap.push { cls := Value.type "tuple", data := Data.seq #[] } }) :=
  .of_wp fun prog w A R s h => by
    obtain ⟨hp, g, d, tk, os⟩ := s
    obtain ⟨hl, h⟩ := h
    have f1 := AutoSeq1.idx_int
    wp_walk using wpAny_loadPart' hl
    exact ⟨_, rfl, h⟩
theorem vals_ix : ∀ (xs : List V) (us : List Value), xs.length = us.length → (∀ (j : Nat) (x : V) (u : Value), xs[j]? = some x → us[j]? = some u → RelV x u) → Vals xs us
  | [], [], _, _ => .nil
  | [], _ :: _, h, _ => by cases h
  | _ :: _, [], h, _ => by cases h
  | x :: xs, u :: us, h, k => .cons (k 0 x u rfl rfl) (vals_ix xs us (Nat.succ.inj h) fun j y v a b => k (j + 1) y v a b)
/-- xs * k, k nought or one -/
def rRep01 (K : PySem.W.Frag) : R2 := fun x y H Q => ∃ l k xs, x = .ref l ∧ y = .int k ∧ SqT K H l xs ∧ xs ≠ [] ∧ 0 ≤ k ∧ k ≤ 1 ∧ (k = 1 → Q (.ref l) H) ∧ (k = 0 → ∀ p, H p = none → Q (.ref p) (upd H p (.tup [])))
section
variable {X : Cx}
theorem call_listS (hc : X.calm = true) : CallR X (.type "list") (fun xs H Q => ∃ z, xs = [.str z] ∧ z.length ≤ sizeLine ∧ ∀ p, H p = none → Q (.ref p) (upd H p (.lst (z.cps.toList.map fun c => V.str ⟨#[c]⟩)))) := by
  intro pins s σ H xs us Q I r h
  obtain ⟨z, rfl, hz, q⟩ := h
  obtain ⟨u, rfl, t, rfl⟩ := vals1 r
  refine call_list_str (I.ok.hd hc) z t (fun h' tk acc' c' kp e it => ?_) hz
  refine ⟨.ref s.heap.objs.size, _, I.laid (t' := tk) kp (Nat.le_refl _) (show ObjOk X.prog X.w _ h' _ (.lst (z.cps.toList.map fun c => V.str ⟨#[c]⟩)) from ⟨by rw [List.length_map, Array.length_toList]; exact hz, acc'.toList, c', ?_, by simpa using e⟩), rfl, q _ (I.hok.fresh (Nat.le_refl _))⟩
  obtain ⟨i1, i2⟩ := it
  refine vals_ix _ _ (by rw [List.length_map, Array.length_toList, Array.length_toList, i1]) fun j x u a b => ?_
  obtain ⟨c, v, hc', rfl⟩ := i2 j u (by rw [← Array.getElem?_toList]; exact b)
  rw [List.getElem?_map, Array.getElem?_toList, hc'] at a
  cases a
  exact ⟨v, rfl⟩
theorem op_rep01 : OpR X (binaryOp .Mult) (rRep01 X.K) := by
  intro pins s σ H x y v u Q I rx ry h
  obtain ⟨l, k, xs, rfl, rfl, hT, hne, h0, h1, q1, q0⟩ := h
  cases rx
  obtain ⟨t, rfl⟩ := ry
  obtain ⟨its, r, ⟨⟨cls, dd, data, sl⟩, ho, hc, n, hd⟩, hs⟩ := I.tuple hT
  simp only at hc hd
  subst hc hd
  have hle : its.length = xs.length := r.length.symm
  have hi : its.toArray.isEmpty = false := by
    cases its with
    | nil => exact absurd (List.eq_nil_of_length_eq_zero hle.symm) hne
    | cons a b => rfl
  refine wpAny_binaryOp_repeat_ref (T := "tuple") (U := "int") (by decide) ⟨_, ho, rfl⟩ (fun s' => typeIs_int s' k t) noFill_tuple_mul F.fills_int_mul F.slot_int_rmul repeat_tuple F.slot_int_index.lookup
    (call_meets F.slot_int_rmul (typeIs_int s k t) F.entry_int_rmul (F.args_int_rmul_2 _ _) (int_rmul_tuple k t l its.toArray n dd sl) ⟨ho, rfl, ⟨_, ho, rfl⟩, ?_⟩)
  by_cases e : k = 1
  · subst e
    exact call_meets F.slot_tuple_mul ⟨_, ho, rfl⟩ F.entry_tuple_mul (F.args_tuple_mul_2 _ _) (tup_mul01 l its.toArray n dd sl t hi) ⟨ho, .ref l, H, I, rfl, q1 rfl⟩
  · have e : k = 0 := by omega
    subst e
    refine call_meets F.slot_tuple_mul ⟨_, ho, rfl⟩ F.entry_tuple_mul (F.args_tuple_mul_2 _ _) (tup_mul00 l its.toArray n dd sl t hi) ⟨ho, ?_⟩
    refine ⟨.ref s.heap.objs.size, _, I.laid (t' := s.toks) (o := .tup []) (fun b ob q => Heap.get?_push_of_some _ q) (Nat.le_refl _) ?_, rfl, q0 rfl _ (I.hok.fresh (Nat.le_refl _))⟩
    exact ⟨Nat.zero_le _, [], .nil, IsTup.new _ _⟩
end
/-! ### 11. enumerate over a tuple -/
section
set_option maxHeartbeats 8000000
/-- enumerate(v) with one argument, v told by how its iterator begins -/
theorem meets_enum1 {v : Value} {o : Obj} {G : Heap → Prop} (B : Begins v o G) :
    Meets (Builtin.«enumerate.__new__» ⟨[.type "enumerate", v], []⟩) (fun _ R s => G s.heap ∧
      R (.ok (.ret (.ref (s.heap.push o).objs.size))) { s with heap := (s.heap.push o).push { cls := .type "enumerate", data := .fields #[.none, .bool false, .ref s.heap.objs.size, rawInt 0, .none, .none] } }) :=
  .of_wp fun prog w A R s h => by
    obtain ⟨hp, g, d, tk, os⟩ := s
    obtain ⟨h1, h⟩ := h
    have hsub := sub_enumerate
    have q1 : ∀ {A' : Around} {E : Value → Shared → Prop} {Q : Value → Shared → Prop}, Q (.ref hp.objs.size) ⟨hp.push o, g, d, tk, os⟩ → wpAny (model prog w) A' (pyIter v) Q E ⟨hp, g, d, tk, os⟩ :=
      fun q => B.iter prog w _ _ ⟨hp, g, d, tk, os⟩ _ h1 q
    wp_walk using q1
    refine wpAny_stack_any fun st => wpAny_pure ?_
    split
    · rename_i c _ _ _ _ _
      cases (c == Value.type "enumerate")
      · wp_walk using q1
        exact ⟨_, rfl, h⟩
      · wp_walk using q1
        exact ⟨_, rfl, h⟩
    · wp_walk using q1
      exact ⟨_, rfl, h⟩
theorem call_enum1 {prog : Program} {w : World} {A : Around} {E : Value → Shared → Prop} {s : Shared} {v : Value} {o : Obj} {G : Heap → Prop} {Q : Value → Shared → Prop} (B : Begins v o G) (h1 : G s.heap)
    (h : ∀ h', IsEnum h' (s.heap.objs.size + 1) s.heap.objs.size 0 .none → h'.get? s.heap.objs.size = some o → (∀ b o, s.heap.get? b = some o → h'.get? b = some o) → Q (.ref (s.heap.objs.size + 1)) { s with heap := h' }) :
    wpAny (model prog w) A (call (.type "enumerate") [v]) Q E s := by
  refine callType_new F.called_enumerate (by decide) (F.typeCall_enumerate_1 _) (F.newCall_enumerate_1 _) (fun obj => F.args_object_init_2 obj _) F.entry_enumerate_new (meets_enum1 B) ⟨h1, ?_⟩
  have hz : (s.heap.push o).objs.size = s.heap.objs.size + 1 := Heap.size_push ..
  show _ ∧ _
  rw [hz]
  have he : IsEnum ((s.heap.push o).push { cls := .type "enumerate", data := .fields #[.none, .bool false, .ref s.heap.objs.size, rawInt 0, .none, .none] }) (s.heap.objs.size + 1) s.heap.objs.size 0 .none := by
    have := Heap.get?_push_size (s.heap.push o) (o := { cls := .type "enumerate", data := .fields #[.none, .bool false, .ref s.heap.objs.size, rawInt 0, .none, .none] }) rfl
    rw [hz] at this
    exact this
  exact ⟨⟨_, he, rfl⟩, h _ he (Heap.get?_push_of_some _ (Heap.get?_push_size _ B.free)) fun b o x => Heap.get?_push_of_some _ (Heap.get?_push_of_some _ x)⟩
/-- the pairs of a tuple's places and items, each pair new -/
def IteT (K : PySem.W.Frag) (a : Addr) : It :=
  ⟨fun i H => ∃ (xs : List V) (x : V), SqT K H a xs ∧ xs[i]? = some x, fun i H v H' => ∃ T x, v = .ref T ∧ H T = none ∧ H' = upd H T (.tup [.int (i : Nat), x]) ∧ ∀ xs, SqT K H a xs → xs[i]? = some x, fun i H => ∃ xs : List V, SqT K H a xs ∧ xs.length = i⟩
theorem walk_enumT {K : PySem.W.Frag} {a : Addr} {xs : List V} : Walk (IteT K a) xs.length (fun H => SqT K H a xs) (YPair (fun i => some (.int (i : Nat))) (fun i => xs[i]?)) := by
  refine ⟨fun i _ hi q => ⟨xs, xs[i], q, by simp [hi]⟩, fun _ q => ⟨xs, q, rfl⟩, fun i H v H' _ q y => ?_⟩
  obtain ⟨T, x, h1, h2, h3, h4⟩ := y
  exact ⟨T, .int (i : Nat), x, h1, h2, h3, rfl, h4 xs q⟩
theorem turn_enumT {P : Program} {w : World} {K : PySem.W.Frag} {elts : List Expr} {kk : Nat} {tpos : Pos} (a e it : Addr) :
    Turn P w K (.Tuple elts kk tpos) (IteT K a) [e, it] e (fun i h => (∃ old, IsEnum h e it ((i : Nat) : Int) old) ∧ h.IsTupleIter it a i ∧ e ≠ it) where
  mem := by simp
  obj := fun i h st b hb => by
    obtain ⟨⟨old, he⟩, ⟨o, ho, hc, hd⟩, _⟩ := st
    rcases (show b = e ∨ b = it by simpa using hb) with rfl | rfl
    · exact ⟨_, he, fun v q => nomatch q⟩
    · exact ⟨o, ho, fun v q => by rw [hd] at q; cases q⟩
  keep := fun i h h' st k => let ⟨⟨old, he⟩, hi, hne⟩ := st; ⟨⟨old, k e (by simp) _ he⟩, hi.at fun o q => k it (by simp) o q, hne⟩
  item := by
    intro X hP hw hK hc i pins s σ H E I hf st hg
    subst hP hw hK
    obtain ⟨⟨old, he⟩, hit, hne⟩ := st
    obtain ⟨xs, x, hq, hx⟩ := hg
    obtain ⟨its, rv, p, hz⟩ := I.tuple hq
    have p : s.heap.IsTuple a its.toArray := p
    obtain ⟨u, hu, ru⟩ := rv.get hx
    have hel : e < s.heap.objs.size := Heap.lt_size he
    have hil : it < s.heap.objs.size := by obtain ⟨_, q, _⟩ := hit; exact Heap.lt_size q
    have hai : a ≠ it := fun z => by
      subst z
      obtain ⟨o, h1, h2, _⟩ := p
      obtain ⟨o', h3, h4, _⟩ := hit
      rw [h1] at h3
      cases h3
      rw [h2] at h4
      exact absurd h4 (by decide)
    have hea : e ≠ a := fun z => by
      subst z
      obtain ⟨o, h1, h2, _⟩ := p
      rw [he] at h1
      cases h1
      have h2 : Value.type "enumerate" = Value.type "tuple" := h2
      exact absurd h2 (by decide)
    have D := Draws.tuple (prog := X.prog) (w := X.w) (A := X.A.in1) (show X.A.in1.handled = none from I.ok.hd hc) it a hai its.toArray
    have hlt : i < its.toArray.size := by
      have h1 : i < xs.length := (List.getElem?_eq_some_iff.mp hx).1
      rw [rv.length] at h1
      simpa using h1
    refine wpAny_pyNext_enum_itemD D he ⟨hit, p⟩ hlt hne (by simp [hne, hea]) fun y h' tk hP ho hit' hT hsz hk => ?_
    have hy : y = u := by
      have h1 : its[i]? = some y := by simpa using hP
      rw [hu] at h1
      exact (Option.some.inj h1).symm
    subst hy
    refine ⟨_, rfl, wpAny_letOwnedTupleGo_enum (s := { s with heap := h', toks := tk + 1 }) ho fun h'' he' sb => ?_⟩
    have hT2 : h''.get? s.heap.objs.size = some { cls := .type "tuple", data := .seq #[.int i tk, y] } := (sb.2 _ (Nat.ne_of_gt hel)).trans hT
    have new : ObjOk X.prog X.w (upd H s.heap.objs.size (.tup [.int (i : Nat), x])) h'' s.heap.objs.size (.tup [.int (i : Nat), x]) :=
      ⟨by show 2 ≤ sizeLine; decide, [.int i tk, y], .cons ⟨_, rfl⟩ (.cons ru .nil), ⟨_, hT2, rfl, _, rfl⟩⟩
    have I1 : Inv X pins σ (upd H s.heap.objs.size (.tup [.int (i : Nat), x])) { s with heap := h'', toks := tk + 1 } :=
      I.turnedNew (ch := [e, it]) (fun b ob hb q => (sb.2 b (fun z => hb (by simp [z]))).trans (hk b ob (fun z => hb (by simp [z])) (fun z => hb (by simp [z])) q)) hf (Nat.le_refl _) new
    refine ⟨.ref s.heap.objs.size, _, I1, rfl, ⟨_, x, rfl, I.hok.fresh (Nat.le_refl _), rfl, fun ys hy => by rw [I.tuple_inj hy hq]; exact hx⟩, ⟨⟨y, ?_⟩, hit'.1.at fun o q => (sb.2 it (Ne.symm hne)).trans q, hne⟩, fun b hb => ?_⟩
    · have e1 : ((i + 1 : Nat) : Int) = (i : Int) + 1 := by omega
      rw [e1]
      exact he'
    · have hb' : b < s.heap.objs.size := by
        rcases (show b = e ∨ b = it by simpa using hb) with rfl | rfl
        · exact hel
        · exact hil
      rw [upd_ne (Nat.ne_of_lt hb')]
      exact (hf b hb).1
  done := by
    intro X hP hw hK hc i pins s σ H E I hf st hg
    subst hP hw hK
    obtain ⟨⟨old, he⟩, hit, hne⟩ := st
    obtain ⟨xs, hq, hx⟩ := hg
    obtain ⟨its, rv, p, hz⟩ := I.tuple hq
    have p : s.heap.IsTuple a its.toArray := p
    have hai : a ≠ it := fun z => by
      subst z
      obtain ⟨o, h1, h2, _⟩ := p
      obtain ⟨o', h3, h4, _⟩ := hit
      rw [h1] at h3
      cases h3
      rw [h2] at h4
      exact absurd h4 (by decide)
    obtain ⟨f0, f1, f2, f3, f4, f5⟩ := hf it (by simp)
    have D := Draws.tuple (prog := X.prog) (w := X.w) (A := X.A.in1) (show X.A.in1.handled = none from I.ok.hd hc) it a hai its.toArray
    have hn : i = its.toArray.size := by
      rw [← hx, rv.length]
      simp
    subst hn
    exact wpAny_pyNext_enum_endD D he ⟨hit, p⟩ fun h' eb => ⟨rfl, I.turned (t' := s.toks) (fun b o hb q => eb b o hb q) f0 f1 f3 f4 f5⟩
  self := fun A i s Q E st h => let ⟨⟨_, he⟩, _⟩ := st; wpAny_pyIter_enum he h
def iEnumT (K : PySem.W.Frag) (ta : TA) : TI := fun σ H R => ta σ H fun vs H1 => ∃ a xs, vs = [.ref a] ∧ SqT K H1 a xs ∧ R (IteT K a) H1
theorem pi_enumT {X : Cx} {e : Expr} {ta : TA} {p pos tpos : Pos} {elts : List Expr} {kk : Nat} (hg : Gl X "enumerate") (hm : X.mg "enumerate" = none) (ha : PA X [e] ta) (hs : starEach [e] X.env = [(false, eval e X.env)] := by rfl) :
    PI X (.Tuple elts kk tpos) (.Call (.Name "enumerate" p) [e] [] pos) (iEnumT X.K ta) := by
  refine ⟨fun pins s σ H R I h => ?_⟩
  refine Call_ (ld_blt I hg hm boot_enumerate (PyProof.Rows.callWith_type1 (thn (ha.run pos pins s σ H _ I h) fun us s1 ⟨vs, H1, I1, r1, q1⟩ => ?_) hs rfl))
  obtain ⟨a, xs, ex, hq, q⟩ := q1
  subst ex
  cases r1 with
  | cons r rr =>
    cases rr
    cases r
    obtain ⟨its, rv, p', hz⟩ := I1.tuple hq
    refine call_enum1 (begins_tuple a its.toArray) p' fun h' he ho hk => wpAny_pyIter_enum he ?_
    have I2 : Inv X pins σ H1 { s1 with heap := h' } := I1.kept (t' := s1.toks) hk
    refine ⟨s1.heap.objs.size + 1, [s1.heap.objs.size + 1, s1.heap.objs.size], _, _, H1, rfl, I2, turn_enumT a (s1.heap.objs.size + 1) s1.heap.objs.size, ⟨⟨.none, he⟩, ⟨_, ho, rfl, rfl⟩, Nat.succ_ne_self _⟩, fun b hb => ?_, q⟩
    have hle : s1.heap.objs.size ≤ b := by
      rcases (show b = s1.heap.objs.size + 1 ∨ b = s1.heap.objs.size by simpa using hb) with z | z
      · rw [z]; exact Nat.le_add_right _ _
      · rw [z]; exact Nat.le_refl _
    exact I1.fpOk hle (I1.hok.fresh hle)
end

/-! ### M17. list.count of texts, a tuple * 0 or 1, enumerate over a tuple -/
def rCntS (K : PySem.W.Frag) : V → List V → Hp → VK → Prop := fun x xs H Q => ∃ (p : Addr) (ys : List (List Nat)) (k : List Nat), x = .ref p ∧ xs = [.str (S k)] ∧ SqL K H p ((ys.map S).map V.str) ∧ Q (.int (ys.count k : Nat)) H
theorem strs_of_vals : ∀ {ys : List Str} {us : List Value}, Vals (ys.map V.str) us → StrsAre us ys
  | [], _, r => by cases r; exact .nil
  | y :: ys, _, r => by
    cases r with
    | cons h t =>
      obtain ⟨tk, rfl⟩ := h
      exact .cons _ _ (strs_of_vals t)
theorem countIn_S (k : List Nat) : ∀ ys : List (List Nat), Spec.countIn (.str (S k)) ((ys.map S).map PyData.str) = ((ys.count k : Nat) : Int) := by
  intro ys
  induction ys with
  | nil => rfl
  | cons y ys ih =>
    rw [List.map_cons, List.map_cons, Spec.countIn, ih, List.count_cons]
    simp only [Spec.same]
    have e : (S y == S k) = (y == k) := SX.S_beq y k
    rcases Bool.eq_false_or_eq_true (y == k) with hb | hb <;> simp only [e, hb, Bool.false_eq_true, if_true, if_false] <;> push_cast <;> omega
section
variable {X : Cx}
theorem mt_scount : MtR X "list.count" (rCntS X.K) := by
  intro pins s σ H x xs v us Q I rx rxs h
  obtain ⟨p, ys, k, rfl, rfl, hs, q⟩ := h
  cases rx
  obtain ⟨u, rfl, ru⟩ := vals1 rxs
  obtain ⟨t, rfl⟩ := ru
  obtain ⟨its, rv, hl, hlen⟩ := I.list hs
  refine count_list_strs (ys := ys.map S) hl.isList (strs_of_vals rv) ⟨.int (ys.count k : Nat), H, I.tok _, ⟨s.toks, ?_⟩, q⟩
  rw [countIn_S]
end
def gCountS (d : D) (ds : List D) : Option D := match d, ds with
  | .lst xs, [.str k] => (strsOf xs).map fun ys => .int (ys.count k : Nat)
  | _, _ => none
section
variable {K : PySem.W.Frag} {ca : Str → Addr}
theorem m_scount : GM K ca (rCntS K) gCountS := by
  intro H B v vs d ds z Q lv hv hb hg q
  unfold gCountS at hg
  split at hg
  · rw [Option.map_eq_some_iff] at hg
    obtain ⟨ys, e1, rfl⟩ := hg
    obtain ⟨w, rfl, hw⟩ := bA1 hb
    obtain ⟨p, xs, rfl, h1, r⟩ := hv.lst
    have := rep_strs r e1
    subst this
    exact ⟨p, ys, _, rfl, by rw [hw.str], SqL.of h1, q _ H SameH.rfl (.int _)⟩
  · cases hg
theorem ty_lst {H : Hp} {B : Addr → Bool} {v : V} {d : D} (h : Bor K ca H B v d) (e : isLst d = true) : tyV K "list" v H := by
  cases d <;> first | (cases e; done) | skip
  obtain ⟨p, xs, rfl, h1, _⟩ := h.lst
  exact .inl ⟨rfl, _, SqL.of h1⟩
def gRep01 : D → D → Option D
  | .tup xs, .int k => if xs ≠ [] ∧ 0 ≤ k ∧ k ≤ 1 then some (if k = 1 then .tup xs else .tup []) else none
  | _, _ => none
theorem g_rep01 : G2 K ca (rRep01 K) gRep01 := by
  intro H B v w d e z Q lv hv hw hg q
  cases d <;> cases e <;> first | (cases hg; done) | skip
  rename_i xs k
  by_cases c : xs ≠ [] ∧ 0 ≤ k ∧ k ≤ 1
  · have hg : (if xs ≠ [] ∧ 0 ≤ k ∧ k ≤ 1 then some (if k = 1 then D.tup xs else .tup []) else none) = some z := hg
    rw [if_pos c] at hg
    cases hg
    obtain ⟨p, ys, rfl, h1, r⟩ := hv.tup
    refine ⟨p, k, ys, rfl, hw.int, SqT.of (mask_le _ _ h1), fun e => c.1 (by subst e; cases r; rfl), c.2.1, c.2.2, fun e => ?_, fun e p0 hp => ?_⟩
    · subst e
      exact q _ H SameH.rfl (.tup h1 r)
    · subst e
      exact q _ _ (SameH.new hp) (.tup (mask_get (live_new lv hp) upd_same) .nil)
  · have hg : (if xs ≠ [] ∧ 0 ≤ k ∧ k ≤ 1 then some (if k = 1 then D.tup xs else .tup []) else none) = some z := hg
    rw [if_neg c] at hg; cases hg
theorem it_enumT {H : Hp} {B : Addr → Bool} {a : Addr} {xs : List V} {ds : List D} (h : SqT K (mask H B) a xs) (r : RepA K ca (mask H B) xs ds) : ItOk K ca (IteT K a) B H (enumD ds) := by
  intro B2 H2 s lv
  have h2 : SqT K H2 a xs := sqT_up mask_le (sqT_up s h)
  refine ⟨fun i d e => ?_, fun i hi => ⟨xs, h2, by rw [r.len, hi]; simp [enumD]⟩⟩
  obtain ⟨d', e1, rfl⟩ := enum_get e
  obtain ⟨x, ex, rx⟩ := r.get e1
  refine ⟨⟨xs, x, h2, ex⟩, fun y H3 hy => ?_⟩
  obtain ⟨T, x', rfl, hT, rfl, hy⟩ := hy
  have := hy xs h2
  rw [ex] at this; cases this
  exact ⟨SameH.new hT, rep_pair lv hT (rx.up s)⟩
end
section
variable {N : Cn} {t : TA} {fs : MM (List Pl)}
theorem enumT_ok {vs : List D} {ds : List D} (e : gEnumT vs = some ds) : ∃ d es, vs = [d] ∧ tupOf d = some es ∧ ds = enumD es := by
  unfold gEnumT at e
  split at e
  · rw [Option.map_eq_some_iff] at e
    obtain ⟨es, e1, e2⟩ := e
    exact ⟨_, es, rfl, e1, e2.symm⟩
  · cases e
theorem si_enumT (h : SA N t fs) : SIt N (iEnumT N.K t) (mItA gEnumT fs) := by
  intro B ρ σ H Q I hp
  unfold iEnumT
  refine Post.next back_It h I hp fun vs ps ρ1 B1 H1 I1 s1 r1 q => ?_
  obtain ⟨ws, e, q⟩ := q.opt
  obtain ⟨ds, e2, q⟩ := q.opt
  obtain ⟨d, es, rfl, e3, rfl⟩ := enumT_ok e2
  obtain ⟨v, rfl, rv⟩ := rep1 (vals_rep r1.1 e)
  obtain ⟨a, xs, rfl, h1, r⟩ := rep_tupOf rv e3
  exact ⟨a, xs, rfl, sqT_up mask_le h1, q.ok I1 Stp.rfl (it_enumT h1 r)⟩
end

/-! ### M18. errors of one's own with fields; raise; defs that raise -/
def spExN (C : Addr) (fs : List Str) : Sp := fun vs H Q _ => ∃ (a : Addr) (ws : List V), vs = .ref a :: ws ∧ ws.length = fs.length ∧ H a = some (exo a C none) ∧
  ∀ dx, H dx = none → dx ≠ a → Q .non (upd (upd H dx (exd dx (fs.zip ws).reverse)) a (exo a C (some dx)))
section
variable {X : Cx} {k j : Nat} {C : Addr} {x : Str} {fs : List Str} {p pos pos2 : Pos} {e : Expr} {es : List Expr} {t : TA} {W : WX}
/-- raise X(e, ..) -/
theorem ps_badN (hc : X.calm = true) (tk : Takes X W) (T : OexC X.K C) (hm : X.mg x = some (.ref C)) (c : ExIni X.prog X.w X.K X.mg X.base k C (spExN C fs)) (hr : Room j X.A) (hk : k + 1 ≤ j) (hg : Gl X x) (ha : PA X (e :: es) t)
    (hdb : (x == ("__debug__" : Str)) = false := by decide) (he : starEach (e :: es) X.env = (false, eval e X.env) :: starEach es X.env := by rfl) (hpl : (backTo pos (starEach es X.env)).any (·.1) = false := by rfl) :
    PS X (.Raise (some (.Call (.Name x p) (e :: es) [] pos)) none pos2) (fun _ σ H => tMkO C (spExN C fs) [] t σ H fun cls d H' => W cls d σ H') := by
  obtain ⟨g, fd, ps, iC, tI, F, b⟩ := c.ex
  exact ps_raise hc tk (pmk_oex T iC tI F (hr.mono hk) b .nil pass0 hg hm ha hdb he hpl)
theorem bad_kN {H1 : Hp} {ws : List V} {Q : XK} (hl : ws.length = fs.length) (h100 : fs.length ≤ 100) (h : ∀ d H', H1 d = none → SameH H1 H' → H' d = some (.xd (fs.zip ws).reverse) → Q (.ref C) (some d) H') :
    ws.length ≤ 1000 ∧ ∀ a, H1 a = none → spExN C fs (.ref a :: (ws ++ [])) (upd H1 a (exo a C none))
      (fun u H2 => u = .non ∧ ∃ (d : Addr) (fs : List (Str × V)), H2 a = some (exo a C (some d)) ∧ H2 d = some (exd d fs) ∧ H1 d = none ∧ Q (.ref C) (some d) (upd (del H2 a) d (.xd fs))) (fun _ _ _ => False) := by
  refine ⟨by omega, fun a ha => ⟨a, ws, by rw [List.append_nil], hl, upd_same, fun dx hdx ne => ⟨rfl, dx, _, upd_same, by rw [upd_ne ne]; exact upd_same, ?_, ?_⟩⟩⟩
  · rw [upd_ne ne] at hdx
    exact hdx
  · rw [upd_ne ne] at hdx
    refine h dx _ hdx (fun b o e => ?_) upd_same
    have hb : b ≠ a := ne_of_none e ha
    rw [upd_ne (ne_of_none e hdx), del_ne hb, upd_ne hb, upd_ne (ne_of_none e hdx), upd_ne hb]
    exact e
end
def sRaise (c : Str) (flds : List Str) (fa : MM (List Pl)) : MS := fun ρ => (fa ρ).out fun x => (Rs.of (vals x.1)).out fun ds => if ds.length = flds.length then .er c (flds.zip ds).reverse else .no
section
variable {N : Cn} {B B' B1 B2 : Addr → Bool} {ρ ρ' ρ1 ρ2 : Env'} {σ σ' : L2.St} {H H' H1 H2 : Hp} {ks : List Kd} {ta : TA} {te : TE} {fa : MM (List Pl)} {m : Mr} {E' : XK} {fs : MM (List Pl)}
theorem zip_keys {α : Type} : ∀ {fs : List Str} {ws : List α}, ws.length = fs.length → (fs.zip ws).map (·.1) = fs
  | [], [], _ => rfl
  | [], _ :: _, h => by cases h
  | _ :: _, [], h => by cases h
  | f :: fs, w :: ws, h => by rw [List.zip_cons_cons, List.map_cons, zip_keys (Nat.succ.inj h)]
theorem zip_vals {α : Type} : ∀ {fs : List Str} {ws : List α}, ws.length = fs.length → (fs.zip ws).map (·.2) = ws
  | [], [], _ => rfl
  | [], _ :: _, h => by cases h
  | _ :: _, [], h => by cases h
  | f :: fs, w :: ws, h => by rw [List.zip_cons_cons, List.map_cons, zip_vals (Nat.succ.inj h)]
theorem RepA.rev {K : PySem.W.Frag} {ca : Str → Addr} {H : Hp} : ∀ {vs : List V} {ds : List D}, RepA K ca H vs ds → RepA K ca H vs.reverse ds.reverse
  | _, _, .nil => .nil
  | _, _, .cons h r => by rw [List.reverse_cons, List.reverse_cons]; exact (RepA.rev r).app (.cons h .nil)
theorem ss_raise {C : Addr} {cn : Str} {flds : List Str} (hf : flds.length ≤ 100) (hC : N.ca cn = C) (ha : SA N ta fa) : SS N (fun _ σ H => tMkO C (spExN C flds) [] ta σ H fun cls d H' => N.E cls d H') (sRaise cn flds fa) := by
  intro B ρ σ H W I hp
  show ta σ H _
  unfold sRaise at hp
  refine Post.out ha I hp fun vs ps ρ1 B1 H1 I1 s1 r1 q => ?_
  obtain ⟨ds, ed, q⟩ := q.opt
  by_cases hl : ds.length = flds.length
  · rw [if_pos hl] at q
    have rr := vals_rep r1.1 ed
    have hl' : vs.length = flds.length := by rw [rr.len]; exact hl
    refine bad_kN hl' hf fun d H' hd s e => ?_
    subst hC
    refine q d H' (flds.zip vs).reverse (I1.no0 hd) (fun b o hc h0 => s b o (I1.fr b o hc h0)) e ?_ ?_
    · rw [List.map_reverse, List.map_reverse, zip_keys hl', zip_keys hl]
    · rw [List.map_reverse, List.map_reverse, zip_vals hl', zip_vals hl]
      exact ((rr.up (mask_up s)).up (mask_sub fun x hx => I1.bb x hx)).rev
  · rw [if_neg hl] at q; exact q.elim
/-- an error that a call lets out -/
theorem xok_call {vs : List V} {ps : List Pl} {ds : List D} {c : Str} {fl : List (Str × D)} (I1 : Iv N B1 ρ1 σ H1) (hp : PlsOk N σ B1 ρ1 H1 vs ps) (ea : argsD ks ps ρ1 = some ds) (h : XOk N c fl) : XOk ⟨N.K, N.ca, H1, cOf ks vs, B1, N.E⟩ c fl := by
  intro dx H' fv h0 hfr hx hk hr
  refine h dx H' fv (I1.no0 h0) (fun b o hc e => hfr b o (fun j hj => ?_) (I1.fr b o hc e)) hx hk (hr.up (mask_sub fun x hx => I1.bb x hx))
  obtain ⟨p, d, o', k1, p1, _, v1, _, _, _, cc⟩ := io_at I1 hp ea hj
  rcases cc with ⟨i, rfl, _, s, ⟨_, _, r⟩ | ⟨_, r⟩⟩ | ⟨rfl, r, _⟩
  · rw [r] at e; cases e
  · exact hc i r
  · rw [r] at e; cases e
theorem se_callX (ha : SA N ta fa) : SE N (tCall (spM N.K N.ca ks false true m) [] N.E ta) (mCallX ks m fa) := by
  intro B ρ σ H Q I hp
  unfold mCallX at hp
  refine ha B ρ σ H _ I ?_
  cases e1 : fa ρ with
  | no => rw [e1] at hp; exact hp
  | er c fs => rw [e1] at hp; exact hp
  | ok x =>
    rw [e1] at hp
    intro vs B1 H1 I1 s1 r1
    simp only [Rs.bind] at hp
    cases ea : argsD ks x.1 x.2 with
    | none => rw [ea] at hp; exact hp.elim
    | some ds =>
      rw [ea] at hp
      simp only [Rs.of] at hp
      obtain ⟨ok, hp⟩ := hp.ofOk
      show spM N.K N.ca ks false true m (vs ++ []) H1 Q N.E
      rw [List.append_nil]
      refine ⟨B1, ds, io_spa I1 r1.1 r1.2.1 ea ok, ?_⟩
      cases em : m ds with
      | no => rw [em] at hp; exact hp.elim
      | er c fs => rw [em] at hp; exact ⟨rfl, xok_call I1 r1.1 ea hp⟩
      | ok y =>
        rw [em] at hp
        rintro v H' B2 hf ho ⟨rfl, hr⟩
        obtain ⟨I2, s2, _⟩ := call_core I1 s1 r1 ea (fun _ h => h) (fun b h h' => by rw [h] at h'; cases h') id hf ho
        exact hp v _ H' I2 s2 hr
end
/-- a def that may raise -/
theorem calMX {P : Program} {w : World} {K : PySem.W.Frag} {mg : Str → Option Value} {base : Heap} {ca : Str → Addr} {ks : List Kd} {x : Str} {st : Stmt} {Nm ps : List Str} {k n : Nat} {rn : Bool} {ms : MS} (D : Dfn K mg x st ps) (S : FnScope Nm ps (defScope st)) (hk : ks.length = ps.length) (hN : Nm.length = ks.length + n)
    (hb : ∀ (f : Addr) (cdv : Value) (A : Around) (outer : List Env) (s : Shared) (H : Hp) (E : XK), Room k (A.deeper (envOfC x (defScope st) s.heap.objs.size f cdv)) →
      ∃ t, PSs (cxOf (L2.CX P w) P w K mg base Nm x (defScope st) f cdv A outer s H E) (defBody st) t ∧ ∀ H0 C B0, SS ⟨K, ca, H0, C, B0, E⟩ t ms) :
    CalX P w K mg base (k + 1) x (spM K ca ks rn true (runM rn ks n ms)) := by
  obtain rfl : n = Nm.length - ks.length := by omega
  refine calX_of D S (fun vs H Q E h => ?_) fun f cdv A outer s H vs Q E hr h => ?_
  · obtain ⟨B0, ds, ha, _⟩ := h
    rw [ha.lv, hk]
  · obtain ⟨t, h1, h2⟩ := hb f cdv A outer s H E hr
    exact ⟨t, h1, body_ok (rs := true) (by omega) E h2 (fun _ => rfl) h⟩

/-! ### M19. objects: fields, methods, what makes them -/
def putFD (f : Str) (v : D) : List (Str × D) → List (Str × D)
  | [] => [(f, v)]
  | (g, x) :: l => if g = f then (f, v) :: l else (g, x) :: putFD f v l
def gFld (c f : Str) : D → Option D
  | .obj c' fs => if c' = c then fs.lookup f else none
  | _ => none
def gPutF (c f : Str) (o d : D) : Option D := match o with
  | .obj c' fs => if c' = c ∧ fs.length < 1000 then some (.obj c' (putFD f d fs)) else none
  | _ => none
section
variable {K : PySem.W.Frag} {ca : Str → Addr} {H : Hp} {B : Addr → Bool}
theorem Bor.obj {v : V} {c : Str} {fs : List (Str × D)} (h : Bor K ca H B v (.obj c fs)) : ∃ a dx fv, v = .ref a ∧ H a = some (.ins (ca c) dx fv) ∧ fv.map (·.1) = fs.map (·.1) ∧ RepA K ca (mask H B) (fv.map (·.2)) (fs.map (·.2)) := by
  rcases h with h | ⟨a, o, rfl, e, cc⟩
  · cases h with
    | obj h1 h2 h3 => exact ⟨_, _, _, rfl, mask_le _ _ h1, h2, h3⟩
  · cases o <;> first | exact cc.elim | (obtain ⟨rfl, h2, h3⟩ := cc; exact ⟨a, _, _, rfl, e, h2, h3⟩)
theorem look_rep : ∀ {fv : List (Str × V)} {fs : List (Str × D)} {f : Str}, fv.map (·.1) = fs.map (·.1) → RepA K ca H (fv.map (·.2)) (fs.map (·.2)) → (∀ d, fs.lookup f = some d → ∃ v, fv.lookup f = some v ∧ Rep K ca H v d) ∧ (fs.lookup f = none → fv.lookup f = none)
  | [], [], f, _, _ => ⟨fun d e => (by cases e), fun _ => rfl⟩
  | [], _ :: _, _, e, _ => by cases e
  | _ :: _, [], _, e, _ => by cases e
  | (a, v) :: fv, (b, d) :: fs, f, e, r => by
    injection e with e1 e2
    have e1 : a = b := e1
    subst e1
    cases r with
    | cons r1 r2 =>
      obtain ⟨h1, h2⟩ := look_rep (f := f) e2 r2
      rw [List.lookup_cons, List.lookup_cons]
      cases q : f == a with
      | true => exact ⟨fun d' e => (by cases e; exact ⟨v, rfl, r1⟩), fun e => (by cases e)⟩
      | false => exact ⟨h1, h2⟩
theorem putF_rep : ∀ {fv : List (Str × V)} {fs : List (Str × D)} {f : Str} {v : V} {d : D}, fv.map (·.1) = fs.map (·.1) → RepA K ca H (fv.map (·.2)) (fs.map (·.2)) → Rep K ca H v d → (putF f v fv).map (·.1) = (putFD f d fs).map (·.1) ∧ RepA K ca H ((putF f v fv).map (·.2)) ((putFD f d fs).map (·.2))
  | [], [], f, v, d, _, _, rv => ⟨rfl, .cons rv .nil⟩
  | [], _ :: _, _, _, _, e, _, _ => by cases e
  | _ :: _, [], _, _, _, e, _, _ => by cases e
  | (a, x) :: fv, (b, y) :: fs, f, v, d, e, r, rv => by
    injection e with e1 e2
    have e1 : a = b := e1
    subst e1
    cases r with
    | cons r1 r2 =>
      obtain ⟨h1, h2⟩ := putF_rep (f := f) e2 r2 rv
      unfold putF putFD
      by_cases q : a = f
      · rw [if_pos q, if_pos q]
        exact ⟨by simp only [List.map_cons]; rw [e2, q], .cons rv r2⟩
      · rw [if_neg q, if_neg q]
        exact ⟨by simp only [List.map_cons]; rw [h1], .cons r1 h2⟩
end
section
variable {N : Cn} {B B' B1 B2 : Addr → Bool} {ρ ρ' ρ1 ρ2 : Env'} {σ σ' : L2.St} {H H' H1 H2 : Hp} {ks : List Kd} {ta : TE} {t : TA} {te : TE} {fa : MM Pl} {fs : MM (List Pl)} {f : MM D} {m : Mr} {E' : XK} {c g : Str} {i : Nat}
theorem se_fld (hc : Cls N.K (N.ca c)) (hn : NoAttr N.K (N.ca c) g) (ha : SPl N ta fa) : SE N (tFld N.K ta g) (m1 (gFld c g) fa) :=
  se_1 (r := fun x H1 Q => ∃ a C dx fs v, x = .ref a ∧ H1 a = some (.ins C dx fs) ∧ Cls N.K C ∧ NoAttr N.K C g ∧ fs.lookup g = some v ∧ Q v H1) (fun H B v d z Q lv hv hg q => by
    cases d <;> first | (cases hg; done) | skip
    rename_i c' fs
    by_cases e : c' = c
    · subst e
      have hg : (if c' = c' then fs.lookup g else none) = some z := hg
      rw [if_pos rfl] at hg
      obtain ⟨a, dx, fv, rfl, h1, h2, h3⟩ := hv.obj
      obtain ⟨x, ex, rx⟩ := (look_rep (f := g) h2 h3).1 z hg
      exact ⟨a, _, dx, fv, x, rfl, h1, hc, hn, ex, q x H SameH.rfl rx⟩
    · have hg : (if c' = c then fs.lookup g else none) = some z := hg
      rw [if_neg e] at hg; cases hg) ha
/-- x.f = e -/
def sFldS (h : D → D → Option D) (i : Nat) (f : MM D) : MS := fun ρ => (f ρ).out fun x => (Rs.of (slotMut x.2 i)).out fun c => (Rs.of (h c x.1)).out fun c' => (Rs.of (x.2[i]?)).out fun s => .nx (x.2.set i (s.put c'))
theorem ct_obj {K : PySem.W.Frag} {ca : Str → Addr} {H : Hp} {o : HO} {c : Str} {fs : List (Str × D)} (h : Ct K ca H o (.obj c fs)) : ∃ dx fv, o = .ins (ca c) dx fv ∧ fv.map (·.1) = fs.map (·.1) ∧ RepA K ca H (fv.map (·.2)) (fs.map (·.2)) := by
  cases o <;> first | exact h.elim | (obtain ⟨rfl, h2, h3⟩ := h; exact ⟨_, _, rfl, h2, h3⟩)
theorem ss_fld (hc : Cls N.K (N.ca c)) (hn : NoAttr N.K (N.ca c) g) (h : SE N te f) : SS N (sFld N.K (tVar i) te g) (sFldS (gPutF c g) i f) := by
  intro B ρ σ H W I hp
  unfold sFldS at hp
  refine Post.out h I hp fun v d ρ1 B1 H1 I1 s1 r1 q => ?_
  obtain ⟨c0, e0, q⟩ := q.opt
  obtain ⟨c', eg, q⟩ := q.opt
  obtain ⟨s, es, q⟩ := q.opt
  obtain ⟨a, o, hσ, hB, hH, hcc, k⟩ := I1.mutAt e0
  have hm : s.mut = some c0 := by
    obtain ⟨x, ex, hx⟩ := slotMut_get e0
    rw [ex] at es; cases es; exact hx
  cases c0 <;> first | (cases eg; done) | skip
  rename_i c1 fs
  have eg : (if c1 = c ∧ fs.length < 1000 then some (D.obj c1 (putFD g d fs)) else none) = some c' := eg
  obtain ⟨⟨rfl, hl⟩, rfl⟩ := ifo eg
  obtain ⟨dx, fv, rfl, h2, h3⟩ := ct_obj hcc
  obtain ⟨p1, p2⟩ := putF_rep (f := g) h2 h3 r1
  refine ⟨.ref a, hσ, a, _, dx, fv, rfl, hH, hc, hn, by have := congrArg List.length h2; simp at this; omega, ?_⟩
  obtain ⟨I2, s2⟩ := I1.setCt (o' := .ins (N.ca c1) dx (putF g v fv)) (d' := .obj c1 (putFD g d fs)) es hm hσ hH ⟨rfl, p1, p2⟩
  exact q σ B1 _ I2 s2.sm
/-- the object of a method call: of the class, without a field of that name -/
def isObjD (c mn : Str) : D → Bool
  | .obj c' fs => c' == c && (fs.lookup mn).isNone
  | _ => false
def isNwP : Pl → Bool
  | .n _ => true
  | _ => false
def mMethK (ks : List Kd) (ps : List Pl) (ρ : Env') (m : Mr) : Rs (D × Env') := (Rs.of (argsD ks ps ρ)).bind fun ds => if okIo ks ps = true then match m ds with
    | .ok r => .ok (r.1, putIo ks ps r.2 ρ)
    | .er c fs => .er c fs
    | .no => .no
  else .no
def noEr : Mr → Mr := fun m ds => match m ds with
  | .er _ _ => .no
  | r => r
def mMeth (c mn : Str) (ks : List Kd) (m : Mr) (fa : MM Pl) (fs : MM (List Pl)) : MM D := fun ρ => (fa ρ).bind fun x => (Rs.of (plD x.2 x.1)).bind fun d0 => if isObjD c mn d0 = true ∧ isNwP x.1 = false then (fs x.2).bind fun y => mMethK ks (x.1 :: y.1) y.2 m else .no
theorem rA_cons {v : V} {p : Pl} {vs : List V} {ps : List Pl} (h1 : PlOk N σ B1 ρ1 H1 v p) (hn : isNwP p = false) (r : rA N σ B ρ H B1 ρ1 H1 vs ps) : rA N σ B ρ H B1 ρ1 H1 (v :: vs) (p :: ps) := by
  cases p with
  | n d => cases hn
  | v d => exact ⟨.cons h1 r.1, r.2.1, r.2.2⟩
  | s i => exact ⟨.cons h1 r.1, r.2.1, r.2.2⟩
/-- the callee runs, its result a value -/
theorem meth_end {vs : List V} {ps : List Pl} {Q : VK} (I1 : Iv N B1 ρ1 σ H1) (s1 : Stp N σ B ρ H B1 ρ1 H1) (r1 : rA N σ B ρ H B1 ρ1 H1 vs ps) (hp : Post rE N σ B ρ H (mMethK ks ps ρ1 m) Q) : spM N.K N.ca ks false true m vs H1 Q N.E := by
  unfold mMethK at hp
  obtain ⟨ds, ea, hp⟩ := hp.opt
  obtain ⟨ok, hp⟩ := hp.ofOk
  refine ⟨B1, ds, io_spa I1 r1.1 r1.2.1 ea ok, ?_⟩
  cases em : m ds with
  | no => rw [em] at hp; exact hp.elim
  | er c fs => rw [em] at hp; exact ⟨rfl, xok_call I1 r1.1 ea hp⟩
  | ok y =>
    rw [em] at hp
    rintro v H' B2 hf ho ⟨rfl, hr⟩
    obtain ⟨I2, s2, _⟩ := call_core I1 s1 r1 ea (fun _ h => h) (fun b h h' => by rw [h] at h'; cases h') id hf ho
    exact hp v _ H' I2 s2 hr
theorem isObj_of {v : V} {d : D} {mn : Str} (h : Bor N.K N.ca H B v d) (e : isObjD c mn d = true) : ∃ a dx fv, v = .ref a ∧ H a = some (.ins (N.ca c) dx fv) ∧ fv.lookup mn = none := by
  cases d <;> first | (cases e; done) | skip
  rename_i c' fs
  have e : (c' == c && (fs.lookup mn).isNone) = true := e
  rw [Bool.and_eq_true] at e
  obtain ⟨e1, e2⟩ := e
  have e1 : c' = c := by simpa using e1
  subst e1
  obtain ⟨a, dx, fv, rfl, h1, h2, h3⟩ := h.obj
  refine ⟨a, dx, fv, rfl, h1, (look_rep (f := mn) h2 h3).2 ?_⟩
  cases q : fs.lookup mn with
  | none => rfl
  | some x => rw [q] at e2; cases e2
theorem se_methX {mn : Str} (ha : SPl N ta fa) (hs : SA N t fs) : SE N (tMeth (N.ca c) mn (spM N.K N.ca ks false true m) [] N.E ta t) (mMeth c mn ks m fa fs) := by
  intro B ρ σ H Q I hp
  unfold tMeth
  unfold mMeth at hp
  refine Post.next back_E ha I hp fun v p ρ1 B1 H1 I1 s1 r1 q => ?_
  obtain ⟨d0, e0, q⟩ := q.opt
  obtain ⟨⟨ho, hnw⟩, q⟩ := q.iff
  obtain ⟨a, dx, fv, rfl, h1, h2⟩ := isObj_of (bor_of I1 r1.1 e0) ho
  refine ⟨a, dx, fv, rfl, h1, h2, ?_⟩
  refine hs B1 ρ1 σ H1 _ I1 ?_
  cases es : fs ρ1 with
  | no => simp only [es] at q; exact q
  | er c fs => simp only [es] at q; exact q
  | ok y =>
    simp only [es] at q
    intro vs B2 H2 I2 s2 r2
    have r3 := rA_cons (r1.1.up s2 I1) hnw r2
    show spM _ _ _ _ _ _ (V.ref a :: (vs ++ [])) H2 Q _
    rw [List.append_nil]
    exact meth_end I2 s2 r3 q
theorem spM_of {K : PySem.W.Frag} {ca : Str → Addr} {rn : Bool} {vs : List V} {Q : VK} {E E1 : XK} (h : spM K ca ks rn true (noEr m) vs H Q E) : spM K ca ks rn false m vs H Q E1 := by
  obtain ⟨B0, ds, ha, h⟩ := h
  refine ⟨B0, ds, ha, ?_⟩
  unfold noEr at h
  cases em : m ds with
  | no => rw [em] at h; exact h
  | er c fs => rw [em] at h; exact h.elim
  | ok x => rw [em] at h; exact h
theorem se_meth {mn : Str} (ha : SPl N ta fa) (hs : SA N t fs) : SE N (tMeth (N.ca c) mn (spM N.K N.ca ks false false m) [] E' ta t) (mMeth c mn ks (noEr m) fa fs) := by
  intro B ρ σ H Q I hp
  unfold tMeth
  unfold mMeth at hp
  refine Post.next back_E ha I hp fun v p ρ1 B1 H1 I1 s1 r1 q => ?_
  obtain ⟨d0, e0, q⟩ := q.opt
  obtain ⟨⟨ho, hnw⟩, q⟩ := q.iff
  obtain ⟨a, dx, fv, rfl, h1, h2⟩ := isObj_of (bor_of I1 r1.1 e0) ho
  refine ⟨a, dx, fv, rfl, h1, h2, ?_⟩
  refine hs B1 ρ1 σ H1 _ I1 ?_
  cases es : fs ρ1 with
  | no => simp only [es] at q; exact q
  | er c fs => simp only [es] at q; exact q
  | ok y =>
    simp only [es] at q
    intro vs B2 H2 I2 s2 r2
    have r3 := rA_cons (r1.1.up s2 I1) hnw r2
    show spM _ _ _ _ _ _ (V.ref a :: (vs ++ [])) H2 Q _
    rw [List.append_nil]
    exact spM_of (meth_end (m := noEr m) I2 s2 r3 q)
/-- C(..) -/
def mMakeK (ks : List Kd) (ps : List Pl) (ρ : Env') : Rs (D × List D) → Rs (D × Env')
  | .ok (.non, o :: os) => .ok (o, putIo ks ps (o :: os) ρ)
  | .er c fs => .er c fs
  | _ => .no
def mMake (c : Str) (ks : List Kd) (m : Mr) (fs : MM (List Pl)) : MM D := fun ρ => (fs ρ).bind fun y => (Rs.of (argsD (.i :: ks) (.n (.obj c []) :: y.1) y.2)).bind fun ds => if okIo (.i :: ks) (.n (.obj c []) :: y.1) = true then mMakeK (.i :: ks) (.n (.obj c []) :: y.1) y.2 (m ds) else .no
theorem nws_some {vs : List V} {ps : List Pl} (h : PlsOk N σ B ρ H vs ps) : ∀ v ∈ nws vs ps, ∃ p o, v = .ref p ∧ H p = some o := by
  induction h with
  | nil => intro v hv; cases hv
  | cons h _ ih =>
    rename_i w ws p ps _
    intro v hv
    cases p with
    | v d => exact ih v hv
    | s i => exact ih v hv
    | n d =>
      rcases List.mem_cons.mp hv with rfl | hv
      · obtain ⟨p, o, rfl, _, _, _, e, _⟩ := h; exact ⟨p, o, rfl, e⟩
      · exact ih v hv
theorem sn_mkX (hs : SA N t fs) : SN N (tMake (N.ca c) (spM N.K N.ca (.i :: ks) false true m) [] N.E t) (mMake c ks m fs) := by
  intro B ρ σ H Q I hp
  unfold tMake
  unfold mMake at hp
  refine hs B ρ σ H _ I ?_
  cases es : fs ρ with
  | no => rw [es] at hp; exact hp
  | er c fs => rw [es] at hp; exact hp
  | ok y =>
    rw [es] at hp
    intro vs B1 H1 I1 s1 r1 x dx hx hdx ne
    simp only [Rs.bind] at hp
    have sH : SameH H1 (upd (upd H1 dx (.own x)) x (.ins (N.ca c) dx [])) := fun b o e => by
      rw [upd_ne (ne_of_none e hx), upd_ne (ne_of_none e hdx)]; exact e
    have I2 : Iv N (addB B1 x) y.2 σ (upd (upd H1 dx (.own x)) x (.ins (N.ca c) dx [])) := I1.newp hx sH (by rw [upd_same]; intro z; cases z)
    have s2 : Stp N σ B1 y.2 H1 (addB B1 x) y.2 (upd (upd H1 dx (.own x)) x (.ins (N.ca c) dx [])) := stp_new hx sH
    have h0 := I1.no0 hx
    have fx := I1.free hx
    have nw : New N σ (addB B1 x) y.2 (upd (upd H1 dx (.own x)) x (.ins (N.ca c) dx [])) (.ref x) (.obj c []) := ⟨x, _, rfl, h0, add_self, fx, upd_same, rfl, rfl, .nil⟩
    have no : NotOld N σ B ρ H (.ref x) := fun p o a1 a2 a3 a4 z => by
      cases z
      obtain ⟨e, _, _⟩ := s1.tm x o a1 a2 a3 a4
      rw [hx] at e; cases e
    have nx : V.ref x ∉ nws vs y.1 := fun hm => by
      obtain ⟨p, o, e1, e2⟩ := nws_some r1.1 _ hm
      cases e1
      rw [hx] at e2; cases e2
    have nall : ∀ v ∈ nws (V.ref x :: vs) (Pl.n (.obj c []) :: y.1), NotOld N σ B ρ H v := fun v hv => by
      rcases List.mem_cons.mp hv with rfl | hv
      · exact no
      · exact r1.2.2 v hv
    have r2 : rA N σ B ρ H (addB B1 x) y.2 (upd (upd H1 dx (.own x)) x (.ins (N.ca c) dx [])) (.ref x :: vs) (.n (.obj c []) :: y.1) :=
      ⟨.cons nw (r1.1.up s2 I1), List.nodup_cons.mpr ⟨nx, r1.2.1⟩, nall⟩
    show spM _ _ _ _ _ _ (V.ref x :: (vs ++ [])) _ _ _
    rw [List.append_nil]
    cases ea : argsD (.i :: ks) (.n (.obj c []) :: y.1) y.2 with
    | none => rw [ea] at hp; exact hp.elim
    | some ds =>
      rw [ea] at hp
      simp only [Rs.of] at hp
      obtain ⟨ok, hp⟩ := hp.ofOk
      refine ⟨addB B1 x, ds, io_spa I2 r2.1 r2.2.1 ea ok, ?_⟩
      cases em : m ds with
      | no => rw [em] at hp; exact hp.elim
      | er c fs => rw [em] at hp; exact ⟨rfl, xok_call I2 r2.1 ea hp⟩
      | ok z =>
        rw [em] at hp
        obtain ⟨r, os⟩ := z
        cases r <;> first | exact hp.elim | skip
        cases os with
        | nil => exact hp.elim
        | cons o os =>
          rintro v H' B2 hf ho ⟨rfl, hr⟩
          obtain ⟨I3, s3, fr⟩ := call_core I2 (s1.tr s2) r2 ea (fun _ h => h) (fun b h h' => by rw [h] at h'; cases h') id hf ho
          have hr : Rep N.K N.ca (mask H' (addB B1 x)) v .non := hr
          cases hr
          refine ⟨rfl, ?_⟩
          obtain ⟨d, ob, e1, e2, e3⟩ := ho 0 x rfl
          cases e1
          exact hp (.ref x) _ H' I3 s3 ⟨⟨x, ob, rfl, h0, add_self, fr x fx, e2, e3⟩, no⟩
end
/-- a method that may raise, one that does not, what makes an object -/
theorem metMX {P : Program} {w : World} {K : PySem.W.Frag} {mg : Str → Option Value} {base : Heap} {ca : Str → Addr} {ks : List Kd} {C : Addr} {mn qual : Str} {st : Stmt} {Nm ps : List Str} {k n : Nat} {rn : Bool} {ms : MS} (c : Cls K C) (D : Mth K C mn qual st ps) (S : FnScope Nm ps (defScope st)) (hk : ks.length = ps.length) (hN : Nm.length = ks.length + n)
    (hb : ∀ (f : Addr) (cdv : Value) (A : Around) (outer : List Env) (s : Shared) (H : Hp) (E : XK), Room k (A.deeper (envOfC qual (defScope st) s.heap.objs.size f cdv)) →
      ∃ t, PSs (cxOf (L2.CX P w) P w K mg base Nm qual (defScope st) f cdv A outer s H E) (defBody st) t ∧ ∀ H0 C B0, SS ⟨K, ca, H0, C, B0, E⟩ t ms) :
    MetX P w K mg base (k + 1) C mn (spM K ca ks rn true (runM rn ks n ms)) := by
  obtain rfl : n = Nm.length - ks.length := by omega
  refine metX_of c D S (fun vs H Q E h => ?_) fun f cdv A outer s H vs Q E hr h => ?_
  · obtain ⟨B0, ds, ha, _⟩ := h
    rw [ha.lv, hk]
  · obtain ⟨t, h1, h2⟩ := hb f cdv A outer s H E hr
    exact ⟨t, h1, body_ok (rs := true) (by omega) E h2 (fun _ => rfl) h⟩
theorem metM {P : Program} {w : World} {K : PySem.W.Frag} {mg : Str → Option Value} {base : Heap} {ca : Str → Addr} {ks : List Kd} {C : Addr} {mn qual : Str} {st : Stmt} {Nm ps : List Str} {k n : Nat} {rn : Bool} {ms : MS} (c : Cls K C) (D : Mth K C mn qual st ps) (S : FnScope Nm ps (defScope st)) (hk : ks.length = ps.length) (hN : Nm.length = ks.length + n)
    (hb : ∀ (f : Addr) (cdv : Value) (A : Around) (outer : List Env) (s : Shared) (H : Hp) (E : XK), Room k (A.deeper (envOfC qual (defScope st) s.heap.objs.size f cdv)) →
      ∃ t, PSs (cxOf CX0 P w K mg base Nm qual (defScope st) f cdv A outer s H E).nox (defBody st) t ∧ ∀ H0 C B0, SS ⟨K, ca, H0, C, B0, E0⟩ t ms) :
    C8.Met P w K mg base (k + 1) C mn (spM K ca ks rn false (runM rn ks n ms)) [] := by
  obtain rfl : n = Nm.length - ks.length := by omega
  refine met_of c D S (fun vs H Q E h => ?_) fun f cdv A outer s H vs Q E hr h => ?_
  · obtain ⟨B0, ds, ha, _⟩ := h
    rw [ha.lv, hk]
  · obtain ⟨t, h1, h2⟩ := hb f cdv A outer s H E hr
    exact ⟨t, h1, body_ok (rs := false) (by omega) E0 h2 (fun z => by cases z) h⟩
theorem makMX {P : Program} {w : World} {K : PySem.W.Frag} {mg : Str → Option Value} {base : Heap} {ca : Str → Addr} {ks : List Kd} {C : Addr} {qual : Str} {st : Stmt} {Nm ps : List Str} {k n : Nat} {rn : Bool} {ms : MS} (D : Ini K C qual st ps) (S : FnScope Nm ps (defScope st)) (hk : ks.length = ps.length) (hN : Nm.length = ks.length + n)
    (hb : ∀ (f : Addr) (cdv : Value) (A : Around) (outer : List Env) (s : Shared) (H : Hp) (E : XK), Room k (A.deeper (envOfC qual (defScope st) s.heap.objs.size f cdv)) →
      ∃ t, PSs (cxOf (L2.CX P w) P w K mg base Nm qual (defScope st) f cdv A outer s H E) (defBody st) t ∧ ∀ H0 C B0, SS ⟨K, ca, H0, C, B0, E⟩ t ms) :
    MakX P w K mg base (k + 1) C (spM K ca ks rn true (runM rn ks n ms)) := by
  obtain rfl : n = Nm.length - ks.length := by omega
  refine makX_of D S (fun vs H Q E h => ?_) fun f cdv A outer s H vs Q E hr h => ?_
  · obtain ⟨B0, ds, ha, _⟩ := h
    rw [ha.lv, hk]
  · obtain ⟨t, h1, h2⟩ := hb f cdv A outer s H E hr
    exact ⟨t, h1, body_ok (rs := true) (by omega) E h2 (fun _ => rfl) h⟩

/-! ### M20. isinstance of a built-in type, x in a text -/
def tyD : D → Option String
  | .non => some "NoneType"
  | .bl _ => some "bool"
  | .int _ => some "int"
  | .str _ => some "str"
  | .tup _ => some "tuple"
  | .lst _ => some "list"
  | .dk _ => some "dict"
  | _ => none
def gIsT : List D → Option D
  | [d, .ty n] => (tyD d).bind fun t => (kitB t n).map D.bl
  | _ => none
def gInSign (neg : Bool) : D → D → Option D
  | .str [c], .str z => some (.bl (if neg then !decide (c ∈ z) else decide (c ∈ z)))
  | _, _ => none
section
variable {K : PySem.W.Frag} {ca : Str → Addr}
theorem ty_of {H : Hp} {B : Addr → Bool} {v : V} {d : D} {t : String} (h : Bor K ca H B v d) (e : tyD d = some t) : TyX K H v (.type t) := by
  cases d <;> first | (cases e; done) | skip
  · cases e; rw [h.non]; exact .base .non
  · cases e; rw [h.bl]; exact .base (.bl _)
  · cases e; rw [h.int]; exact .base (.int _)
  · cases e; rw [h.str]; exact .base (.str _)
  · cases e; obtain ⟨a, xs, rfl, h1, _⟩ := h.tup; exact .base (.tup (mask_le _ _ h1))
  · cases e; obtain ⟨a, xs, rfl, h1, _⟩ := h.lst; exact .base (.lst h1)
  · cases e
    obtain ⟨a, xs, rfl, h1, _⟩ := h.dk
    rcases h1 with h1 | ⟨o, h1⟩
    · exact .base (.dK h1)
    · exact .fDict h1
theorem a_isT : GA K ca (rIsi K) gIsT := by
  intro H B vs ds z Q lv hb hg q
  unfold gIsT at hg
  split at hg
  · obtain ⟨t, e1, e2⟩ := Option.bind_eq_some_iff.mp hg
    obtain ⟨b, e3, rfl⟩ := Option.map_eq_some_iff.mp e2
    obtain ⟨v, w, rfl, hv, hw⟩ := bA2 hb
    exact ⟨v, w, _, _, b, rfl, by rw [hw.ty]; exact .ty _, ty_of hv e1, kit_ty e3, q _ H SameH.rfl (.bl _)⟩
  · cases hg
theorem g_inSign (neg : Bool) : G2 K ca (fun x y H Q => ∃ (c : Nat) (z : Str), x = V.str ⟨#[c]⟩ ∧ y = V.str z ∧ Q (V.bl (if neg then !decide (c ∈ z.cps.toList) else decide (c ∈ z.cps.toList))) H) (gInSign neg) := by
  intro H B v w d e z Q lv hv hw hg q
  unfold gInSign at hg
  split at hg
  · cases hg
    exact ⟨_, S _, hv.str, hw.str, q _ H SameH.rfl (.bl _)⟩
  · cases hg
theorem g_inS : G2 K ca (fun x y H Q => ∃ (c : Nat) (z : Str), x = V.str ⟨#[c]⟩ ∧ y = V.str z ∧ Q (V.bl (decide (c ∈ z.cps.toList))) H) (gInSign false) := g_inSign false
theorem g_ninS : G2 K ca (fun x y H Q => ∃ (c : Nat) (z : Str), x = V.str ⟨#[c]⟩ ∧ y = V.str z ∧ Q (V.bl (!decide (c ∈ z.cps.toList))) H) (gInSign true) := g_inSign true
end
/-! how the dict of an error fills -/
section
variable {H : Hp} {a dx : Addr} {x e1 e2 e3 : HO}
theorem exd_on1 (ne : dx ≠ a) : upd (upd H dx e1) a x dx = some e1 := by rw [upd_ne ne]; exact upd_same
theorem exo_on1 (ne : dx ≠ a) : upd (upd (upd H dx e1) a x) dx e2 a = some x := by rw [upd_ne (Ne.symm ne)]; exact upd_same
theorem exo_on2 (ne : dx ≠ a) : upd (upd (upd (upd H dx e1) a x) dx e2) dx e3 a = some x := by rw [upd_ne (Ne.symm ne)]; exact exo_on1 ne
theorem exd_eq2 (ne : dx ≠ a) : upd (upd (upd H dx e1) a x) dx e2 = upd (upd H dx e2) a x := by
  funext b
  by_cases h : b = dx
  · subst h; rw [upd_same, upd_ne ne, upd_same]
  · rw [upd_ne h]
    by_cases h2 : b = a
    · subst h2; rw [upd_same, upd_same]
    · rw [upd_ne h2, upd_ne h2, upd_ne h, upd_ne h]
theorem ex_len1 {α : Type} {ws : List α} {f : Str} (h : ws.length = [f].length) : ∃ v0, ws = [v0] := by
  match ws, h with
  | [a], _ => exact ⟨a, rfl⟩
theorem ex_len2 {α : Type} {ws : List α} {f g : Str} (h : ws.length = [f, g].length) : ∃ v0 v1, ws = [v0, v1] := by
  match ws, h with
  | [a, b], _ => exact ⟨a, b, rfl⟩
theorem ex_len3 {α : Type} {ws : List α} {f g k : Str} (h : ws.length = [f, g, k].length) : ∃ v0 v1 v2, ws = [v0, v1, v2] := by
  match ws, h with
  | [a, b, c], _ => exact ⟨a, b, c, rfl⟩
theorem ex_len4 {α : Type} {ws : List α} {f g k l : Str} (h : ws.length = [f, g, k, l].length) : ∃ v0 v1 v2 v3, ws = [v0, v1, v2, v3] := by
  match ws, h with
  | [a, b, c, d], _ => exact ⟨a, b, c, d, rfl⟩
end
theorem cal0X {P : Program} {w : World} {K : PySem.W.Frag} {mg : Str → Option Value} {base : Heap} {ca : Str → Addr} {x : Str} {st : Stmt} {Nm ps : List Str} {ks : List Kd} {rn : Bool} (k : Nat) (D : Dfn K mg x st ps) (S : FnScope Nm ps (defScope st)) :
    CalX P w K mg base (k + 1) x (spM K ca ks rn true (fun _ => .no)) :=
  calX_of D S (fun _ _ _ _ h => by obtain ⟨_, _, _, h⟩ := h; exact h.elim) fun _ _ _ _ _ _ _ _ _ _ h => by obtain ⟨_, _, _, h⟩ := h; exact h.elim

/-! ### M21. str.partition, sorted of texts, list(d), any, str(text) -/
def partD (a b : List Nat) : List D := [.str (Txt.partition (S a) (S b)).1.cps.toList, .str (Txt.partition (S a) (S b)).2.1.cps.toList, .str (Txt.partition (S a) (S b)).2.2.cps.toList]
def gPart (d : D) (ds : List D) : Option D := match d, ds with
  | .str a, [.str b] => if b ≠ [] ∧ a.length ≤ sizeLine then some (.tup (partD a b)) else none
  | _, _ => none
theorem gPart_s {a b : List Nat} : gPart (.str a) [.str b] = if b ≠ [] ∧ a.length ≤ sizeLine then some (.tup (partD a b)) else none := rfl
/-! sorting of texts -/
def insL (x : List Nat) : List (List Nat) → List (List Nat)
  | [] => [x]
  | y :: ys => if x ≤ y then x :: y :: ys else y :: insL x ys
def srtL : List (List Nat) → List (List Nat)
  | [] => []
  | x :: xs => insL x (srtL xs)
theorem insL_perm (x : List Nat) : ∀ ys, (insL x ys).Perm (x :: ys)
  | [] => .refl _
  | y :: ys => by
    unfold insL
    split
    · exact .refl _
    · exact ((insL_perm x ys).cons y).trans (.swap x y ys)
theorem srtL_perm : ∀ xs, (srtL xs).Perm xs
  | [] => .refl _
  | x :: xs => (insL_perm x _).trans ((srtL_perm xs).cons x)
theorem insL_sorted (x : List Nat) : ∀ {ys}, ys.Pairwise (· ≤ ·) → (insL x ys).Pairwise (· ≤ ·)
  | [], _ => List.pairwise_singleton _ _
  | y :: ys, h => by
    have hy := List.pairwise_cons.mp h
    unfold insL
    split
    · rename_i c
      refine List.pairwise_cons.mpr ⟨fun z hz => ?_, h⟩
      rcases List.mem_cons.mp hz with rfl | hz
      · exact c
      · exact List.le_trans c (hy.1 z hz)
    · rename_i c
      refine List.pairwise_cons.mpr ⟨fun z hz => ?_, insL_sorted x hy.2⟩
      rcases List.mem_cons.mp ((insL_perm x ys).mem_iff.mp hz) with rfl | hz
      · exact (List.le_total z y).resolve_left c
      · exact hy.1 z hz
theorem srtL_sorted : ∀ xs, (srtL xs).Pairwise (· ≤ ·)
  | [] => .nil
  | x :: xs => insL_sorted x (srtL_sorted xs)
theorem srtL_eq {xs ys : List (List Nat)} (h : ys.Perm xs) (s : ys.Pairwise (· ≤ ·)) : ys = srtL xs :=
  List.Perm.eq_of_pairwise (fun a b _ _ h1 h2 => List.le_antisymm h1 h2) s (srtL_sorted xs) (h.trans (srtL_perm xs).symm)
theorem rising_pw : ∀ (p : Str) (l : List Str), risingS p l = true → ((p :: l).map fun x : Str => x.cps.toList).Pairwise (· ≤ ·)
  | p, [], _ => List.pairwise_singleton _ _
  | p, x :: l, h => by
    have h : (!ltCps x.cps.toList p.cps.toList && risingS x l) = true := h
    rw [Bool.and_eq_true, ltCps_eq] at h
    have c : p.cps.toList ≤ x.cps.toList := by
      have := h.1
      simp only [Bool.not_eq_true', decide_eq_false_iff_not] at this
      exact List.not_lt.mp this
    have ih := rising_pw x l h.2
    refine List.pairwise_cons.mpr ⟨fun z hz => ?_, ih⟩
    rcases List.mem_cons.mp hz with rfl | hz
    · exact c
    · exact List.le_trans c ((List.pairwise_cons.mp ih).1 z hz)
theorem sorted_pw : ∀ {l : List Str}, sortedS l = true → (l.map fun x : Str => x.cps.toList).Pairwise (· ≤ ·)
  | [], _ => .nil
  | x :: l, h => rising_pw x l h
theorem S_cps (a : List Nat) : (S a).cps.toList = a := rfl
theorem cps_S (x : Str) : S x.cps.toList = x := by cases x; rfl
theorem srt_of {ys : List Str} {xs : List (List Nat)} (h : ys.Perm (xs.map S)) (s : sortedS ys = true) : ys = (srtL xs).map S := by
  have e : (ys.map fun x : Str => x.cps.toList) = srtL xs := by
    refine srtL_eq ?_ (sorted_pw s)
    have := h.map (fun x : Str => x.cps.toList)
    rw [List.map_map] at this
    have e2 : ((fun x : Str => x.cps.toList) ∘ S) = id := by funext a; rfl
    rw [e2, List.map_id] at this
    exact this
  rw [← e, List.map_map]
  have e2 : (S ∘ fun x : Str => x.cps.toList) = id := by funext a; exact cps_S a
  rw [e2, List.map_id]
def keyStr : List Key → Option (List (List Nat))
  | [] => some []
  | .inr x :: ks => (keyStr ks).map fun xs => x.cps.toList :: xs
  | .inl _ :: _ => none
def gSortD : List D → Option D
  | [.dk es] => (keyStr (es.map (·.1))).bind fun xs => if xs.length < 64 then some (.lst ((srtL xs).map D.str)) else none
  | _ => none
def gSortL : List D → Option D
  | [.lst ds] => (strsOf ds).bind fun xs => if xs.length < 64 then some (.lst ((srtL xs).map D.str)) else none
  | _ => none
def keyDd : Key → D
  | .inl i => .int i
  | .inr x => .str x.cps.toList
def gLstK : List D → Option D
  | [.dk es] => some (.lst (es.map fun e => keyDd e.1))
  | _ => none
def blsOf : List D → Option (List Bool)
  | [] => some []
  | .bl b :: ds => (blsOf ds).map fun bs => b :: bs
  | _ => none
def gAny : List D → Option D
  | [.lst ds] => (blsOf ds).map fun bs => .bl (bs.any id)
  | _ => none
def gStrS : List D → Option D
  | [.str x] => some (.str x)
  | _ => none
section
variable {K : PySem.W.Frag} {ca : Str → Addr}
theorem m_part : GM K ca (fun x xs H Q => ∃ a b, x = .str a ∧ xs = [.str b] ∧ (b.length == 0) = false ∧ a.length ≤ sizeLine ∧ ∀ p, H p = none → Q (.ref p) (upd H p (.tup [.str (Txt.partition a b).1, .str (Txt.partition a b).2.1, .str (Txt.partition a b).2.2]))) gPart := by
  intro H B v vs d ds z Q lv hv hb hg q
  unfold gPart at hg
  split at hg
  · rename_i a b
    obtain ⟨⟨c1, c2⟩, rfl⟩ := ifo hg
    obtain ⟨w, rfl, hw⟩ := bA1 hb
    refine ⟨S a, S b, hv.str, by rw [hw.str], ?_, by rw [S_len]; exact c2, fun p hp => ?_⟩
    · rw [S_len]
      cases b with
      | nil => exact absurd rfl c1
      | cons _ _ => rfl
    · refine q _ _ (SameH.new hp) (.tup (mask_get (live_new lv hp) upd_same) ?_)
      unfold partD
      refine .cons ?_ (.cons ?_ (.cons ?_ .nil))
      · have := Rep.str (K := K) (ca := ca) (H := mask (upd H p (.tup [.str (Txt.partition (S a) (S b)).1, .str (Txt.partition (S a) (S b)).2.1, .str (Txt.partition (S a) (S b)).2.2])) B) (Txt.partition (S a) (S b)).1.cps.toList
        rw [cps_S] at this; exact this
      · have := Rep.str (K := K) (ca := ca) (H := mask (upd H p (.tup [.str (Txt.partition (S a) (S b)).1, .str (Txt.partition (S a) (S b)).2.1, .str (Txt.partition (S a) (S b)).2.2])) B) (Txt.partition (S a) (S b)).2.1.cps.toList
        rw [cps_S] at this; exact this
      · have := Rep.str (K := K) (ca := ca) (H := mask (upd H p (.tup [.str (Txt.partition (S a) (S b)).1, .str (Txt.partition (S a) (S b)).2.1, .str (Txt.partition (S a) (S b)).2.2])) B) (Txt.partition (S a) (S b)).2.2.cps.toList
        rw [cps_S] at this; exact this
  · cases hg
theorem keyStr_ok : ∀ {ks : List Key} {xs : List (List Nat)}, keyStr ks = some xs → ks = (xs.map S).map Sum.inr
  | [], _, e => by cases e; rfl
  | .inr x :: ks, _, e => by
    obtain ⟨xs, e1, rfl⟩ := Option.map_eq_some_iff.mp e
    rw [keyStr_ok e1, List.map_cons, List.map_cons, cps_S]
  | .inl _ :: _, _, e => by cases e
theorem rep_strs' {H : Hp} : ∀ (xs : List (List Nat)), RepA K ca H ((xs.map S).map V.str) (xs.map D.str)
  | [] => .nil
  | x :: xs => .cons (.str x) (rep_strs' xs)
/-- sorted of a dict's keys -/
theorem a_sortD : NA K ca (fun xs H Q => ∃ (a : Addr) (kvs : List (Key × V)) (ks : List Str), xs = [.ref a] ∧ Rd H a (.dK kvs) ∧ kvs.map (·.1) = ks.map Sum.inr ∧ ks.length < 64 ∧
    ∀ ys p, ys.Perm ks → sortedS ys = true → H p = none → Q (.ref p) (upd H p (.lst (ys.map V.str)))) gSortD := by
  intro H B vs ds z Q lv hb hg q
  unfold gSortD at hg
  split at hg
  · rename_i es
    obtain ⟨xs, e1, e2⟩ := Option.bind_eq_some_iff.mp hg
    obtain ⟨c, rfl⟩ := ifo e2
    obtain ⟨v, rfl, hv⟩ := bA1 hb
    obtain ⟨a, kvs, rfl, rd, ek, r⟩ := hv.dk
    refine ⟨a, kvs, xs.map S, rfl, rd, by rw [ek]; exact keyStr_ok e1, by rw [List.length_map]; exact c, fun ys p hp hs hn => ?_⟩
    rw [srt_of hp hs]
    exact q p _ _ hn (SameH.new hn) upd_same (rep_strs' _)
  · cases hg
/-- sorted of a list of texts -/
theorem a_sortL : NA K ca (rSortedS K) gSortL := by
  intro H B vs ds z Q lv hb hg q
  unfold gSortL at hg
  split at hg
  · rename_i es
    obtain ⟨xs, e1, e2⟩ := Option.bind_eq_some_iff.mp hg
    obtain ⟨c, rfl⟩ := ifo e2
    obtain ⟨v, rfl, hv⟩ := bA1 hb
    obtain ⟨a, ys, rfl, h1, r⟩ := hv.lst
    have := rep_strs r e1
    subst this
    refine ⟨a, xs.map S, rfl, SqL.of h1, by rw [List.length_map]; exact c, fun ys p hp hs hn => ?_⟩
    rw [srt_of hp hs]
    exact q p _ _ hn (SameH.new hn) upd_same (rep_strs' _)
  · cases hg
theorem key_self {H : Hp} (k : Key) : Rep K ca H (kV k) (keyDd k) := by
  cases k with
  | inl i => exact .int i
  | inr x =>
    have := Rep.str (K := K) (ca := ca) (H := H) x.cps.toList
    rw [cps_S] at this; exact this
theorem a_lstK : NA K ca (fun xs H Q => ∃ (a : Addr) (kvs : List (Key × V)), xs = [.ref a] ∧ Rd H a (.dK kvs) ∧ ∀ p, H p = none → Q (.ref p) (upd H p (.lst (kvs.map fun kv => kV kv.1)))) gLstK := by
  intro H B vs ds z Q lv hb hg q
  unfold gLstK at hg
  split at hg
  · rename_i es
    cases hg
    obtain ⟨v, rfl, hv⟩ := bA1 hb
    obtain ⟨a, kvs, rfl, rd, ek, r⟩ := hv.dk
    refine ⟨a, kvs, rfl, rd, fun p hn => q p _ _ hn (SameH.new hn) upd_same ?_⟩
    clear rd r hb hv q
    induction kvs generalizing es with
    | nil => cases es with
      | nil => exact .nil
      | cons _ _ => cases ek
    | cons kv kvs ih => cases es with
      | nil => cases ek
      | cons e es =>
        injection ek with e1 e2
        have e1 : kv.1 = e.1 := e1
        refine .cons ?_ (ih es e2)
        show Rep K ca (mask H B) (kV kv.1) (keyDd e.1)
        rw [e1]
        exact key_self e.1
  · cases hg
theorem rep_bls {H : Hp} : ∀ {vs : List V} {ds : List D} {bs : List Bool}, RepA K ca H vs ds → blsOf ds = some bs → vs = bs.map V.bl
  | _, _, _, .nil, e => by cases e; rfl
  | _, _, _, .cons (d := d) h r, e => by
    cases d <;> first | (cases e; done) | skip
    obtain ⟨bs, e1, rfl⟩ := Option.map_eq_some_iff.mp e
    cases h
    rw [rep_bls r e1]; rfl
theorem a_any : GA K ca (rAny K) gAny := by
  intro H B vs ds z Q lv hb hg q
  unfold gAny at hg
  split at hg
  · obtain ⟨bs, e1, rfl⟩ := Option.map_eq_some_iff.mp hg
    obtain ⟨v, rfl, hv⟩ := bA1 hb
    obtain ⟨a, xs, rfl, h1, r⟩ := hv.lst
    have := rep_bls r e1
    subst this
    exact ⟨a, bs, rfl, SqL.of h1, q _ H SameH.rfl (.bl _)⟩
  · cases hg
theorem a_strS : GA K ca (fun xs H Q => ∃ a, xs = [.str a] ∧ Q (.str a) H) gStrS := by
  intro H B vs ds z Q lv hb hg q
  unfold gStrS at hg
  split at hg
  · rename_i x
    cases hg
    obtain ⟨v, rfl, hv⟩ := bA1 hb
    exact ⟨S x, by rw [hv.str], q _ H SameH.rfl (.str _)⟩
  · cases hg
end

/-! ### M22. dict comprehensions -/
def dcL (mg : MG) (mt : MM Bool) (mk me : MM D) (vs : List Nat) : List D → List (Key × D) → Env' → Rs (List (Key × D) × Env')
  | [], acc, ρ => (Rs.of (wipeM vs ρ)).bind fun ρ' => .ok (acc, ρ')
  | d :: ds, acc, ρ => match mg d ρ with
    | none => .no
    | some ρ1 => match mt ρ1 with
      | .ok (true, ρ2) => match mk ρ2 with
        | .ok (kd, ρ2') => match me ρ2' with
          | .ok (y, ρ3) => match keyD kd with
            | some k => if acc.length < sizeLine then (Rs.of (wipeM vs ρ3)).bind fun ρ4 => dcL mg mt mk me vs ds (dput acc k y) ρ4 else .no
            | none => .no
          | _ => .no
        | _ => .no
      | .ok (false, ρ2) => (Rs.of (wipeM vs ρ2)).bind fun ρ4 => dcL mg mt mk me vs ds acc ρ4
      | _ => .no
def mDc (fi : MM (List D)) (mg : MG) (mt : MM Bool) (mk me : MM D) (vs : List Nat) : MM D := fun ρ => (fi ρ).bind fun x => (Rs.of (wipeM vs x.2)).bind fun ρ1 => (dcL mg mt mk me vs x.1 [] ρ1).bind fun y => .ok (.dk y.1, y.2)
section
variable {N : Cn} {B B' B1 B2 : Addr → Bool} {ρ ρ' ρ1 ρ2 : Env'} {σ σ' : L2.St} {H H' H1 H2 : Hp} {vs ts : List Nat} {g : TG} {mg : MG} {wi : TI} {fi : MM (List D)} {tt : TT} {mt : MM Bool} {te tk : TE} {me mk : MM D}
theorem sn_dc (hi : SIt N wi fi) (hg : SG N.e0 ts g mg) (hts : ∀ j ∈ ts, j ∈ vs) (ht : STt N.e0 tt mt) (hk : SE N.e0 tk mk) (he : SE N.e0 te me) : SN N (tDc wi g tt tk te vs) (mDc fi mg mt mk me vs) := by
  intro B ρ σ H Q I hp
  unfold mDc at hp
  unfold tDc
  refine Post.next back_N hi I hp fun J items ρ1 B1 H1 I1 s1 r1 q => ?_
  obtain ⟨ρ2, ew, q⟩ := q.opt
  simp only at ew q
  intro Dd hD
  have hnew := I1.newp (H' := upd H1 Dd (.dK [])) hD (SameH.new hD) (by rw [upd_same]; intro z; cases z)
  have I2 : Iv N (addB B1 Dd) ρ2 (wipe σ vs) (upd H1 Dd (.dK [])) := hnew.wipeIn ew
  have s2 : SameH (mask H1 B1) (mask (upd H1 Dd (.dK [])) (addB B1 Dd)) := mask_add hD (SameH.new hD)
  have f2 : Free ρ2 (wipe σ vs) Dd := free_wiped (I1.free hD) ew
  have h0 : N.H0 Dd = none := I1.no0 hD
  have hC : ∀ j, N.C j ≠ some Dd := I1.notC h0
  have wt : ∀ {σ2 : L2.St}, (∀ j, j ∉ ts → σ2[j]? = (wipe σ vs)[j]?) → σ2.length = (wipe σ vs).length → wipe σ2 vs = wipe σ vs := fun {σ2} h hl =>
    (wipe_eq hl fun j hj => h j fun z => hj (hts j z)).trans (wipe_eq (wipe_length _ _) fun j hj => wipe_get hj)
  refine ⟨fun i m H' => m + i = items.length ∧ ∃ (B' : Addr → Bool) (ρ' : Env') (acc : List (Key × D)) (accV : List (Key × V)), Iv N B' ρ' (wipe σ vs) H' ∧ SameH (mask H1 B1) (mask H' B') ∧
    (∀ p o, B1 p = true → Free ρ1 σ p → (∀ j, N.C j ≠ some p) → H1 p = some o → H' p = some o ∧ B' p = true ∧ Free ρ' (wipe σ vs) p) ∧ H' Dd = some (.dK accV) ∧ B' Dd = true ∧ Free ρ' (wipe σ vs) Dd ∧
    (accV.map (·.1) = acc.map (·.1) ∧ RepA N.K N.ca (mask H' B') (accV.map (·.2)) (acc.map (·.2))) ∧
    Post rN N σ B1 ρ1 H1 ((dcL mg mt mk me vs (items.drop i) acc ρ').bind fun y => .ok (.dk y.1, y.2)) Q,
    ⟨items.length, rfl, addB B1 Dd, ρ2, [], [], I2, s2, fun p o g1 g2 g3 g4 => ⟨by rw [upd_ne (ne_of_none g4 hD)]; exact g4, add_of g1, free_wiped g2 ew⟩, upd_same, add_self, f2, ⟨rfl, .nil⟩, q⟩, ?_⟩
  rintro i m H' ⟨hm, B', ρ', acc, accV, I', s', t', eD, bD, fD, rA', q⟩
  obtain ⟨hgo, hstop⟩ := r1 B' H' s' I'.tr
  by_cases hi' : i < items.length
  · refine .inr ?_
    rw [List.drop_eq_getElem_cons hi'] at q
    obtain ⟨go, yl⟩ := hgo i _ (List.getElem?_eq_getElem hi')
    refine ⟨go, _, fun H' h => h, fun x H3 hy => ?_⟩
    obtain ⟨s3, rx⟩ := yl x H3 hy
    have I3 := (I'.grow s3).e0
    unfold dcL at q
    cases eg : mg items[i] ρ' with
    | none => rw [eg] at q; exact q.elim
    | some ρa =>
      rw [eg] at q
      simp only at q
      refine hg B' ρ' (wipe σ vs) H3 x _ _ I3 rx (fun ρ4 e4 σ2 I4 k4 o4 l4 => ?_) ⟨ρa, eg⟩
      rw [eg] at e4; cases e4
      have w2 : wipe σ2 vs = wipe σ vs := wt (fun j hj => (k4 j hj).1) l4
      have fr2 : ∀ {p}, Free ρ' (wipe σ vs) p → Free ρa σ2 p := fun {p} f j d e => by
        by_cases hj : j ∈ ts
        · exact absurd e (o4 j d hj)
        · rw [(k4 j hj).2] at e
          rw [(k4 j hj).1]
          exact f j d e
      refine ⟨w2, ?_⟩
      refine ht B' ρa σ2 H3 _ I4 ?_
      cases et : mt ρa with
      | no => rw [et] at q; exact q.elim
      | er c fs => rw [et] at q; exact q.elim
      | ok z =>
        obtain ⟨b, ρb⟩ := z
        rw [et] at q
        intro b' B5 H5 I5 s5 r5
        cases (show b' = b from r5)
        obtain ⟨e5, b5, f5⟩ := s5.tm Dd _ bD (fr2 fD) hC (s3 _ _ eD)
        have T5 : ∀ p o, B1 p = true → Free ρ1 σ p → (∀ j, N.C j ≠ some p) → H1 p = some o → H5 p = some o ∧ B5 p = true ∧ Free ρb σ2 p := fun p o g1 g2 g3 g4 =>
          let ⟨a1, a2, a3⟩ := t' p o g1 g2 g3 g4
          s5.tm p o a2 (fr2 a3) g3 (s3 _ _ a1)
        have S5 : SameH (mask H1 B1) (mask H5 B5) := (s'.tr (mask_up s3)).tr s5.sm
        have R5 : RepA N.K N.ca (mask H5 B5) (accV.map (·.2)) (acc.map (·.2)) := (rA'.2.up (mask_up s3)).up s5.sm
        cases b with
        | true =>
          simp only at q
          rw [if_pos rfl]
          refine hk B5 ρb σ2 H5 _ I5 ?_
          cases ek : mk ρb with
          | no => rw [ek] at q; exact q.elim
          | er c fs => rw [ek] at q; exact q.elim
          | ok zk =>
            obtain ⟨kd, ρk⟩ := zk
            rw [ek] at q
            simp only at q
            intro yk Bk Hk Ik sk rk
            obtain ⟨ekk, bkk, fkk⟩ := sk.tm Dd _ b5 f5 hC e5
            refine he Bk ρk σ2 Hk _ Ik ?_
            cases ee : me ρk with
            | no => rw [ee] at q; exact q.elim
            | er c fs => rw [ee] at q; exact q.elim
            | ok z =>
              obtain ⟨d, ρc⟩ := z
              rw [ee] at q
              intro y B6 H6 I6 s6 r6
              obtain ⟨e6, b6, f6⟩ := s6.tm Dd _ bkk fkk hC ekk
              simp only at q
              cases ekd : keyD kd with
              | none => rw [ekd] at q; exact q.elim
              | some k =>
              rw [ekd] at q
              simp only at q
              by_cases hl : acc.length < sizeLine
              · simp only [if_pos hl] at q
                cases ew4 : wipeM vs ρc with
                | none => rw [ew4] at q; exact q.elim
                | some ρd =>
                  rw [ew4] at q
                  have hk' : yk = kV k := keyR rk ekd
                  have hll : accV.length < sizeLine := by have := congrArg List.length rA'.1; simp at this; omega
                  have R6 : RepA N.K N.ca (mask H6 B6) (accV.map (·.2)) (acc.map (·.2)) := (R5.up sk.sm).up s6.sm
                  refine ⟨accV, k, hk', e6, hll, m - 1, by omega, by omega, B6, ρd, dput acc k d, putK accV k y, ?_⟩
                  have I7 : Iv N B6 ρc σ2 (upd H6 Dd (.dK (putK accV k y))) := I6.unE.setTmp h0 b6 f6
                  have I8 := I7.wipeIn ew4
                  rw [w2] at I8
                  have hm6 : mask (upd H6 Dd (.dK (putK accV k y))) B6 = mask H6 B6 := mask_upd b6
                  refine ⟨I8, by rw [hm6]; exact (S5.tr sk.sm).tr s6.sm, fun p o g1 g2 g3 g4 => ?_, upd_same, b6, by rw [← w2]; exact free_wiped f6 ew4, by rw [hm6]; exact dput_rep rA'.1 R6 r6, q⟩
                  obtain ⟨a1, a2, a3⟩ := T5 p o g1 g2 g3 g4
                  obtain ⟨b1, b2, b3⟩ := sk.tm p o a2 a3 g3 a1
                  obtain ⟨c1, c2, c3⟩ := s6.tm p o b2 b3 g3 b1
                  exact ⟨by rw [upd_ne (ne_of_none g4 hD)]; exact c1, c2, by rw [← w2]; exact free_wiped c3 ew4⟩
              · simp only [if_neg hl] at q; exact q.elim
        | false =>
          simp only at q
          rw [if_neg Bool.false_ne_true]
          cases ew4 : wipeM vs ρb with
          | none => rw [ew4] at q; exact q.elim
          | some ρd =>
            rw [ew4] at q
            have I8 := I5.unE.wipeIn ew4
            rw [w2] at I8
            refine ⟨m - 1, by omega, by omega, B5, ρd, acc, accV, I8, S5, fun p o g1 g2 g3 g4 => ?_, e5, b5, by rw [← w2]; exact free_wiped f5 ew4, ⟨rA'.1, R5⟩, q⟩
            obtain ⟨a1, a2, a3⟩ := T5 p o g1 g2 g3 g4
            exact ⟨a1, a2, by rw [← w2]; exact free_wiped a3 ew4⟩
  · refine .inl ⟨hstop i (by omega), ?_⟩
    rw [List.drop_eq_nil_of_le (by omega)] at q
    unfold dcL at q
    cases ew4 : wipeM vs ρ' with
    | none => rw [ew4] at q; exact q.elim
    | some ρd =>
      rw [ew4] at q
      refine q (.ref Dd) B' H' (I'.wipeOut ew4) ⟨s', fun p o g1 g2 g3 g4 => ?_⟩ ⟨⟨Dd, _, rfl, h0, bD, free_unwiped fD ew4, eD, rA'⟩, notOld_new hD⟩
      obtain ⟨a1, a2, a3⟩ := t' p o g1 g2 g3 g4
      exact ⟨a1, a2, free_unwiped a3 ew4⟩
end

/-! ### M23. a loop over a dict's keys: the dict is locked -/
def tLockM (t : TS) : TS := fun D σ H => tLock t D σ H ∨ t D σ H
theorem ps_lockM {X : Cx} {st : Stmt} {t : TS} (h : PS X st t) : PS X st (tLockM t) :=
  ⟨fun pins s σ H D I hw => by
    rcases hw with hw | hw
    · exact (ps_lock h).run pins s σ H D I hw
    · exact h.run pins s σ H D I hw⟩
def isDH : HO → Prop
  | .dK _ => True
  | .dT _ => True
  | _ => False
structure Lks (d : Addr) (H H' : Hp) : Prop where
  ne : ∀ a o, a ≠ d → H a = some o → H' a = some o
  rd : ∀ u, (∀ od w, u ≠ .frz od w) → Rd H d u → Rd H' d u
  ho : ∀ o, H d = some o → isDH o ∨ ∃ od u, o = .frz od u ∧ isDH u
section
variable {K : PySem.W.Frag} {ca : Str → Addr} {H H' : Hp} {d : Addr}
theorem Lks.plain (L : Lks d H H') {a : Addr} {o : HO} (h : H a = some o) (hn : ¬ isDH o) (hf : ∀ od u, o ≠ .frz od u) : H' a = some o := by
  refine L.ne a o (fun e => ?_) h
  subst e
  rcases L.ho o h with g | ⟨od, u, g, _⟩
  · exact hn g
  · exact hf od u g
theorem Lks.rdA (L : Lks d H H') {a : Addr} {u : HO} (hu : ∀ od w, u ≠ .frz od w) (h : Rd H a u) : Rd H' a u := by
  by_cases e : a = d
  · subst e; exact L.rd u hu h
  · rcases h with h | ⟨o, h⟩
    · exact .inl (L.ne a _ e h)
    · exact .inr ⟨o, L.ne a _ e h⟩
theorem Lks.tup (L : Lks d H H') {a : Addr} {xs : List V} (h : H a = some (.tup xs)) : H' a = some (.tup xs) := L.plain h (fun z => z) (fun _ _ z => nomatch z)
theorem Lks.lst (L : Lks d H H') {a : Addr} {xs : List V} (h : H a = some (.lst xs)) : H' a = some (.lst xs) := L.plain h (fun z => z) (fun _ _ z => nomatch z)
theorem Lks.ins (L : Lks d H H') {a C dx : Addr} {fs : List (Str × V)} (h : H a = some (.ins C dx fs)) : H' a = some (.ins C dx fs) := L.plain h (fun z => z) (fun _ _ z => nomatch z)
theorem Lks.sqT (L : Lks d H H') {a : Addr} {xs : List V} (h : SqT K H a xs) : SqT K H' a xs := h.imp (L.rdA (fun _ _ z => nomatch z)) id
theorem Lks.sqL (L : Lks d H H') {a : Addr} {xs : List V} (h : SqL K H a xs) : SqL K H' a xs := h.imp (L.rdA (fun _ _ z => nomatch z)) id
theorem Lks.dK (L : Lks d H H') {a : Addr} {xs : List (Key × V)} (h : Rd H a (.dK xs)) : Rd H' a (.dK xs) := L.rdA (fun _ _ z => nomatch z) h
theorem Lks.dT (L : Lks d H H') {a : Addr} {xs : List (List Key × V)} (h : Rd H a (.dT xs)) : Rd H' a (.dT xs) := L.rdA (fun _ _ z => nomatch z) h
mutual
theorem Rep.lk (L : Lks d H H') : ∀ {v : V} {x : D}, Rep K ca H v x → Rep K ca H' v x
  | _, _, .non => .non
  | _, _, .bl b => .bl b
  | _, _, .int i => .int i
  | _, _, .str x => .str x
  | _, _, .ty n => .ty n
  | _, _, .tup h r => .tup (L.tup h) (RepA.lk L r)
  | _, _, .tpq h r => .tpq (L.sqT h) (RepA.lk L r)
  | _, _, .lst h r => .lst (L.lst h) (RepA.lk L r)
  | _, _, .lsq h r => .lsq (L.sqL h) (RepA.lk L r)
  | _, _, .dk h e r => .dk (L.dK h) e (RepA.lk L r)
  | _, _, .dt h e r => .dt (L.dT h) e (RepA.lk L r)
  | _, _, .obj h e r => .obj (L.ins h) e (RepA.lk L r)
  | _, _, .exn h g e r => .exn (L.plain h (fun z => z) (fun _ _ z => nomatch z)) (L.plain g (fun z => z) (fun _ _ z => nomatch z)) e (RepA.lk L r)
  | _, _, .exn0 h => .exn0 (L.plain h (fun z => z) (fun _ _ z => nomatch z))
theorem RepA.lk (L : Lks d H H') : ∀ {vs : List V} {ds : List D}, RepA K ca H vs ds → RepA K ca H' vs ds
  | _, _, .nil => .nil
  | _, _, .cons h r => .cons (Rep.lk L h) (RepA.lk L r)
end
theorem Ct.lk (L : Lks d H H') {o : HO} {x : D} (h : Ct K ca H o x) : Ct K ca H' o x := by
  cases o <;> cases x <;> first
    | exact h.elim
    | exact RepA.lk L h
    | exact ⟨h.1, RepA.lk L h.2⟩
    | exact ⟨h.1, h.2.1, RepA.lk L h.2.2⟩
theorem lks_lock {B : Addr → Bool} {od : Obj} {u : HO} (hd : H d = some u) (hu : isDH u) (hB : B d = false) : Lks d (mask H B) (mask (upd H d (.frz od u)) B) where
  ne := fun a o e h => by
    unfold mask at h ⊢
    split at h
    · cases h
    · rename_i c; rw [if_neg c, upd_ne e]; exact h
  rd := fun v hv h => by
    have e1 : mask H B d = some u := mask_get hB hd
    have e2 : mask (upd H d (.frz od u)) B d = some (.frz od u) := mask_get hB upd_same
    rcases h with h | ⟨o, h⟩
    · rw [e1] at h; cases h; exact .inr ⟨od, e2⟩
    · rw [e1] at h; cases h; exact hu.elim
  ho := fun o h => by rw [mask_get hB hd] at h; cases h; exact .inl hu
theorem lks_unlock {B : Addr → Bool} {od : Obj} {u : HO} (hd : H d = some (.frz od u)) (hu : isDH u) (hB : B d = false) : Lks d (mask H B) (mask (upd H d u) B) where
  ne := fun a o e h => by
    unfold mask at h ⊢
    split at h
    · cases h
    · rename_i c; rw [if_neg c, upd_ne e]; exact h
  rd := fun v hv h => by
    have e1 : mask H B d = some (.frz od u) := mask_get hB hd
    have e2 : mask (upd H d u) B d = some u := mask_get hB upd_same
    rcases h with h | ⟨o, h⟩
    · rw [e1] at h; cases h; exact absurd rfl (hv od u)
    · rw [e1] at h; cases h; exact .inl e2
  ho := fun o h => by rw [mask_get hB hd] at h; cases h; exact .inr ⟨od, u, rfl, hu⟩
end

open Classical in
noncomputable def lkN (N : Cn) (d : Addr) (od : Obj) (u : HO) : Cn := { N with H0 := if N.H0 d = some u then upd N.H0 d (.frz od u) else N.H0 }
section
variable {N : Cn} {B B' : Addr → Bool} {ρ ρ' : Env'} {σ σ' : L2.St} {H H' : Hp} {d : Addr} {od : Obj} {u : HO}
theorem lkN_eq (h : N.H0 d = some u) : (lkN N d od u).H0 = upd N.H0 d (.frz od u) := if_pos h
theorem lkN_no (h : ¬ N.H0 d = some u) : (lkN N d od u).H0 = N.H0 := if_neg h
theorem lkN_ne {a : Addr} (h : a ≠ d) : (lkN N d od u).H0 a = N.H0 a := by
  by_cases c : N.H0 d = some u
  · rw [lkN_eq c]; exact upd_ne h
  · rw [lkN_no c]
theorem lkN_none {a : Addr} (h : N.H0 a = none) : (lkN N d od u).H0 a = none := by
  by_cases e : a = d
  · subst e
    rw [lkN_no (by rw [h]; intro z; cases z)]
    exact h
  · rw [lkN_ne e]; exact h
theorem lkN_none' {a : Addr} (h : (lkN N d od u).H0 a = none) : N.H0 a = none := by
  by_cases e : a = d
  · subst e
    by_cases c : N.H0 a = some u
    · rw [lkN_eq c, upd_same] at h; cases h
    · rw [lkN_no c] at h; exact h
  · rw [lkN_ne e] at h; exact h
theorem SlOk.lk (L : Lks d (mask H B) (mask H' B)) (hne : ∀ a o, a ≠ d → H a = some o → H' a = some o) (hB : B d = false) (hb0 : ∀ b, N.B0 b = true → B b = true) {N' : Cn} (eK : N'.K = N.K) (eca : N'.ca = N.ca) (eC : N'.C = N.C) (eB : N'.B0 = N.B0) (e0 : ∀ a, a ≠ d → N.H0 a = none → N'.H0 a = none)
    (hC : ∀ j a, N.C j = some a → N.B0 a = true) {j : Nat} {w : Option V} {x : Sl} (h : SlOk N B H j w x) : SlOk N' B H' j w x := by
  have dB : ∀ a, B a = true → a ≠ d := fun a ha z => by rw [z, hB] at ha; cases ha
  cases x with
  | e => trivial
  | v x => obtain ⟨v, e, r⟩ := h; exact ⟨v, e, by rw [eK, eca]; exact r.lk L⟩
  | o x =>
    obtain ⟨a, o, e, h1, h2, h3, h4, c⟩ := h
    exact ⟨a, o, e, h1, by rw [eB]; exact h2, e0 a (dB a h1) h3, hne a o (dB a h1) h4, by rw [eK, eca]; exact c.lk L⟩
  | i x =>
    obtain ⟨a, o, e, h1, h2, c⟩ := h
    exact ⟨a, o, e, by rw [eC]; exact h1, hne a o (dB a (hb0 a (hC j a h1))) h2, by rw [eK, eca]; exact c.lk L⟩
  | b x =>
    obtain ⟨v, e, r | ⟨a, o, h1, h2, h3, h4, c⟩⟩ := h
    · exact ⟨v, e, .inl (by rw [eK, eca]; exact r.lk L)⟩
    · exact ⟨v, e, .inr ⟨a, o, h1, by rw [eB]; exact h2, by rw [eC]; exact h3, hne a o (dB a (hb0 a h2)) h4, by rw [eK, eca]; exact c.lk L⟩⟩
theorem Iv.lk (I : Iv N B ρ σ H) (hd : H d = some u) (hu : isDH u) (hB : B d = false) : Iv (lkN N d od u) B ρ σ (upd H d (.frz od u)) where
  fr := fun b o hc e => by
    by_cases z : b = d
    · subst z
      rw [upd_same]
      by_cases c : N.H0 b = some u
      · rw [lkN_eq c, upd_same] at e; exact e
      · rw [lkN_no c] at e
        have := I.fr b o hc e
        rw [hd] at this; cases this
        exact absurd e c
    · rw [upd_ne z]
      rw [lkN_ne z] at e
      exact I.fr b o hc e
  cb := I.cb
  ci := I.ci
  ck := I.ck
  bb := I.bb
  bh := fun b hb => fun z => I.bh b hb (lkN_none' z)
  tr := fun b hb => by
    have : b ≠ d := fun z => by rw [z, hB] at hb; cases hb
    rw [upd_ne this]; exact I.tr b hb
  ln := I.ln
  sl := fun j x e => (I.sl j x e).lk (N' := lkN N d od u) (lks_lock hd hu hB) (fun a o z h => by rw [upd_ne z]; exact h) hB I.bb rfl rfl rfl rfl (fun a _ h => lkN_none h) I.cb
  ds := I.ds
theorem Iv.unlk (I : Iv (lkN N d od u) B ρ σ H) (hd : H d = some (.frz od u)) (hu : isDH u) (hB : B d = false) (h0 : ∀ o, N.H0 d = some o → o = u) : Iv N B ρ σ (upd H d u) where
  fr := fun b o hc e => by
    by_cases z : b = d
    · subst z
      rw [upd_same, h0 o e]
    · rw [upd_ne z]
      exact I.fr b o hc (by rw [lkN_ne z]; exact e)
  cb := I.cb
  ci := I.ci
  ck := I.ck
  bb := I.bb
  bh := fun b hb => fun z => I.bh b hb (lkN_none z)
  tr := fun b hb => by
    have : b ≠ d := fun z => by rw [z, hB] at hb; cases hb
    rw [upd_ne this]; exact I.tr b hb
  ln := I.ln
  sl := fun j x e => (I.sl j x e).lk (N := lkN N d od u) (N' := N) (lks_unlock hd hu hB) (fun a o z h => by rw [upd_ne z]; exact h) hB I.bb rfl rfl rfl rfl (fun a _ h => lkN_none' h) I.cb
  ds := I.ds
end
/-! the loop -/
def gKeys : D → Option (List D)
  | .dk es => some (es.map fun e => keyDd e.1)
  | .dt [] => some []
  | _ => none
def noE : Out → Out
  | .er _ _ => .no
  | o => o
/-- where a dict (or what holds it) stands that is only read -/
abbrev MK := Env' → Option D
def SKP (N : Cn) (t : TE) (f : MK) : Prop := ∀ B ρ σ H z, Iv N B ρ σ H → f ρ = some z → ∃ v, Rep N.K N.ca (mask H B) v z ∧ ∀ (H2 : Hp) (Q : VK), (∀ a C dx fs, H a = some (.ins C dx fs) → H2 a = some (.ins C dx fs)) → Q v H2 → t σ H2 Q
def kVar (i : Nat) : MK := fun ρ => match ρ[i]? with
  | some (.v d) => some d
  | _ => none
def kFld (c g : Str) (f : MK) : MK := fun ρ => (f ρ).bind (gFld c g)
def sForK (f : MK) (mg : MG) (body : MS) : MS := fun ρ => (Rs.of (f ρ)).out fun z => (Rs.of (gKeys z)).out fun ds => noE (forL mg body ds ρ)
section
variable {N : Cn} {B B' B1 B2 : Addr → Bool} {ρ ρ' ρ1 ρ2 : Env'} {σ σ' : L2.St} {H H' H1 H2 : Hp} {g : TG} {mg : MG} {ts : List Nat} {te : TE} {f : MK} {tb : TS} {body : MS}
theorem skp_var (i : Nat) : SKP N (tVar i) (kVar i) := by
  intro B ρ σ H z I e
  unfold kVar at e
  split at e
  · rename_i d ex
    cases e
    obtain ⟨v, hv, r⟩ := I.sl i _ ex
    exact ⟨v, r, fun H2 Q _ q => ⟨v, of_bind hv, q⟩⟩
  · cases e
theorem skp_fld {c x : Str} (hc : Cls N.K (N.ca c)) (hn : NoAttr N.K (N.ca c) x) (ha : SKP N te f) : SKP N (tFld N.K te x) (kFld c x f) := by
  intro B ρ σ H z I e
  obtain ⟨w, e1, e2⟩ := Option.bind_eq_some_iff.mp e
  obtain ⟨v, rv, hv⟩ := ha B ρ σ H w I e1
  cases w <;> first | (cases e2; done) | skip
  rename_i c' fs
  unfold gFld at e2
  simp only at e2
  split at e2
  · rename_i ec
    subst ec
    cases rv with
    | obj h e r =>
      rename_i a dx fv
      obtain ⟨x', ex, rx⟩ := (look_rep e r).1 z e2
      refine ⟨x', rx, fun H2 Q h2 q => hv H2 _ h2 ⟨a, _, dx, fv, x', rfl, h2 _ _ _ _ (mask_le _ _ h), hc, hn, ex, q⟩⟩
  · cases e2
theorem it_keysK {d : Addr} {od : Obj} {kvs : List (Key × V)} {ds : List (Key × D)} (hd : mask H B d = some (.frz od (.dK kvs))) (e : kvs.map (·.1) = ds.map (·.1)) : ItOk N.K N.ca (Itk d od kvs) B H (ds.map fun e => keyDd e.1) := by
  have hl : kvs.length = ds.length := by have := congrArg List.length e; simpa using this
  intro B2 H2 s lv
  have h2 := mask_le _ _ (s _ _ hd)
  refine ⟨fun i x ex => ?_, fun i hi => ⟨h2, by rw [hl, hi, List.length_map]; exact Nat.le_refl _⟩⟩
  rw [List.getElem?_map, Option.map_eq_some_iff] at ex
  obtain ⟨y, ey, rfl⟩ := ex
  have hi : i < ds.length := (List.getElem?_eq_some_iff.mp ey).1
  refine ⟨⟨h2, by omega⟩, fun y' H3 hy => ?_⟩
  obtain ⟨rfl, k, v, ek, rfl⟩ := hy
  have e1 : (kvs.map (·.1))[i]? = some k := by rw [List.getElem?_map, ek]; rfl
  rw [e, List.getElem?_map, ey] at e1
  cases e1
  exact ⟨SameH.rfl, key_self _⟩
theorem keys_self {K : PySem.W.Frag} {ca : Str → Addr} {H : Hp} : ∀ ks : List Key, RepA K ca H (ks.map kV) (ks.map keyDd)
  | [] => .nil
  | k :: ks => .cons (key_self k) (keys_self ks)
/-- out of the lock -/
theorem unlock_ok {d : Addr} {od : Obj} {u : HO} {W : Ends} {out : Out} (hu : isDH u) (hd : H d = some u) (hB : B d = false) (h0 : ∀ o, N.H0 d = some o → o = u) (h : PostS N B H W (noE out)) :
    PostS (lkN N d od u) B (upd H d (.frz od u)) ⟨fun σ' H' => H' d = some (.frz od u) ∧ W.nx σ' (upd H' d u), fun v H' => H' d = some (.frz od u) ∧ W.rt v (upd H' d u), fun σ' H' => H' d = some (.frz od u) ∧ W.bk σ' (upd H' d u), fun σ' H' => H' d = some (.frz od u) ∧ W.ct σ' (upd H' d u)⟩ out := by
  have key : ∀ {σ' B' H' ρ'}, Iv (lkN N d od u) B' ρ' σ' H' → SameH (mask (upd H d (.frz od u)) B) (mask H' B') → H' d = some (.frz od u) ∧ B' d = false ∧ Iv N B' ρ' σ' (upd H' d u) ∧ SameH (mask H B) (mask (upd H' d u) B') := by
    intro σ' B' H' ρ' I' s'
    have e1 := s' d _ (mask_get hB upd_same)
    have e2 : H' d = some (.frz od u) := mask_le _ _ e1
    have e3 : B' d = false := by
      unfold mask at e1
      split at e1
      · cases e1
      · rename_i c; simpa using c
    refine ⟨e2, e3, I'.unlk e2 hu e3 h0, fun a o ha => ?_⟩
    by_cases z : a = d
    · subst z
      rw [mask_get hB hd] at ha; cases ha
      exact mask_get e3 upd_same
    · have : mask (upd H d (.frz od u)) B a = some o := by
        unfold mask at ha ⊢
        split at ha
        · cases ha
        · rename_i c; rw [if_neg c, upd_ne z]; exact ha
      have := s' a o this
      unfold mask at this ⊢
      split at this
      · cases this
      · rename_i c; rw [if_neg c, upd_ne z]; exact this
  cases out with
  | no => exact h
  | er c fs => exact h.elim
  | nx ρ' => exact fun σ' B' H' I' s' => let ⟨a, _, b, c⟩ := key I' s'; ⟨a, h σ' B' _ b c⟩
  | bk ρ' => exact fun σ' B' H' I' s' => let ⟨a, _, b, c⟩ := key I' s'; ⟨a, h σ' B' _ b c⟩
  | ct ρ' => exact fun σ' B' H' I' s' => let ⟨a, _, b, c⟩ := key I' s'; ⟨a, h σ' B' _ b c⟩
  | rt nw x ρ' =>
    cases nw with
    | false => exact fun v σ' B' H' I' s' r => let ⟨a, e3, b, c⟩ := key I' s'; ⟨a, h v σ' B' _ b c (r.lk (lks_unlock a hu e3))⟩
    | true =>
      intro v σ' B' H' I' s' r
      obtain ⟨a, e3, b, c⟩ := key I' s'
      obtain ⟨p, o, rfl, g1, g2, g3, g4, g5⟩ := r
      have : p ≠ d := fun z => by rw [z, e3] at g2; cases g2
      exact ⟨a, h _ σ' B' _ b c ⟨p, o, rfl, lkN_none' g1, g2, g3, by rw [upd_ne this]; exact g4, g5.lk (lks_unlock a hu e3)⟩⟩
theorem forK_run {J : It} {items : List D} {W : Ends} (I1 : Iv N B1 ρ1 σ H1) (r1 : ItOk N.K N.ca J B1 H1 items) (hg : SG N ts g mg) (hb : SS N tb body) (q : PostS N B1 H1 W (forL mg body items ρ1)) :
    ∃ W' : Nat → Nat → L2.St → Hp → Prop, (∃ m, W' 0 m σ H1) ∧ ∀ i m σ H, W' i m σ H → (J.stop i H ∧ W.nx σ H) ∨ (J.go i H ∧ ∃ Nx : L2.St → Hp → Prop, (∀ σ' H', Nx σ' H' → ∃ m', m' < m ∧ W' (i + 1) m' σ' H') ∧
      ∀ x H', J.yld i H x H' → g x σ H' fun σ2 H2 => tb { W with nx := Nx, ct := Nx, bk := W.nx } σ2 H2) := by
  refine ⟨fun i m σ' H' => m + i = items.length ∧ ∃ B' ρ', Iv N B' ρ' σ' H' ∧ SameH (mask H1 B1) (mask H' B') ∧ PostS N B' H' W (forL mg body (items.drop i) ρ'), ⟨items.length, rfl, B1, ρ1, I1, SameH.rfl, q⟩, ?_⟩
  rintro i m σ2 H2 ⟨hm, B2, ρ2, I2, s2, q2⟩
  obtain ⟨hgo, hstop⟩ := r1 B2 H2 s2 I2.tr
  by_cases hi : i < items.length
  · refine .inr ?_
    have ei : items[i]? = some items[i] := List.getElem?_eq_getElem hi
    rw [List.drop_eq_getElem_cons hi] at q2
    obtain ⟨go, yl⟩ := hgo i _ ei
    refine ⟨go, fun σ' H' => ∃ m', m' < m ∧ m' + (i + 1) = items.length ∧ ∃ B' ρ', Iv N B' ρ' σ' H' ∧ SameH (mask H1 B1) (mask H' B') ∧ PostS N B' H' W (forL mg body (items.drop (i + 1)) ρ'), fun σ' H' h => h, fun x H3 hy => ?_⟩
    obtain ⟨s3, rx⟩ := yl x H3 hy
    have I3 := I2.grow s3
    unfold forL at q2
    cases eg : mg items[i] ρ2 with
    | none => rw [eg] at q2; exact q2.elim
    | some ρ3 =>
      rw [eg] at q2
      simp only at q2
      refine hg B2 ρ2 σ2 H3 x _ _ I3 rx (fun ρ4 e4 σ4 I4 _ _ _ => ?_) ⟨ρ3, eg⟩
      rw [eg] at e4; cases e4
      have q3 := PostS.from (mask_up s3) q2
      have sT : ∀ {σ' B' H' ρ'}, Iv N B' ρ' σ' H' → SameH (mask H3 B2) (mask H' B') → PostS N B2 H3 W (forL mg body (items.drop (i + 1)) ρ') → ∃ m', m' < m ∧ m' + (i + 1) = items.length ∧ ∃ B' ρ', Iv N B' ρ' σ' H' ∧ SameH (mask H1 B1) (mask H' B') ∧ PostS N B' H' W (forL mg body (items.drop (i + 1)) ρ') :=
        fun I' s' p' => ⟨m - 1, by omega, by omega, _, _, I', (s2.tr (mask_up s3)).tr s', PostS.from s' p'⟩
      refine hb B2 ρ3 σ4 H3 _ I4 ?_
      cases eb : body ρ3 with
      | no => rw [eb] at q3; exact q3.elim
      | er c fs => rw [eb] at q3; exact q3
      | nx ρ5 => rw [eb] at q3; exact fun σ' B' H' I' s' => sT I' s' q3
      | ct ρ5 => rw [eb] at q3; exact fun σ' B' H' I' s' => sT I' s' q3
      | bk ρ5 => rw [eb] at q3; exact q3
      | rt nw d ρ5 => rw [eb] at q3; cases nw <;> exact q3
  · refine .inl ⟨hstop i (by omega), ?_⟩
    rw [List.drop_eq_nil_of_le (by omega)] at q2
    exact q2 σ2 B2 H2 I2 SameH.rfl
theorem PostS.unE {out : Out} {W : Ends} (h : PostS N B H W (noE out)) : PostS N B H W out := by
  cases out with
  | er c fs => exact h.elim
  | _ => exact h
/-- for x in d -/
theorem ss_forK (hk : SKP N te f) (hg : ∀ H0', SG { N with H0 := H0' } ts g mg) (hb : ∀ H0', SS { N with H0 := H0' } tb body) : SS N (tLockM (tFor (iKeys te) g tb)) (sForK f mg body) := by
  intro B ρ σ H W I hp
  unfold sForK at hp
  obtain ⟨z, ez, hp⟩ := hp.opt
  obtain ⟨ds, ek, hp⟩ := hp.opt
  obtain ⟨v, rv, hv⟩ := hk B ρ σ H z I ez
  have vis : ∀ {d : Addr} {u : HO}, mask H B d = some u → H d = some u ∧ B d = false := fun {d u} h => ⟨mask_le _ _ h, by
    unfold mask at h
    split at h
    · cases h
    · rename_i c; simpa using c⟩
  cases z <;> first | (cases ek; done) | skip
  · rename_i es
    cases ek
    cases rv with
    | dk rd e r =>
      rename_i d kvs
      rcases rd with h1 | ⟨od, h1⟩
      · obtain ⟨h2, hB⟩ := vis h1
        refine .inl ⟨d, _, h2, trivial, fun od => ?_⟩
        have h0 : ∀ o, N.H0 d = some o → o = .dK kvs := fun o ho => by
          have := I.fr d o (fun j hj => by have := I.bb d (I.cb j d hj); rw [hB] at this; cases this) ho
          rw [h2] at this; exact (Option.some.inj this).symm
        have I' := I.lk (od := od) h2 (show isDH (.dK kvs) from trivial) hB
        have p' := unlock_ok (od := od) (show isDH (.dK kvs) from trivial) h2 hB h0 hp
        refine hv _ _ (fun a C dx fs ha => by rw [upd_ne (fun z => by rw [z, h2] at ha; cases ha)]; exact ha) ⟨d, od, rfl, .inl ⟨kvs, upd_same, ?_⟩⟩
        exact forK_run (N := lkN N d od (.dK kvs)) I' (it_keysK (N := lkN N d od (.dK kvs)) (mask_get hB upd_same) e) (hg _) (hb _) p'
      · refine .inr (hv H _ (fun a C dx fs ha => ha) ⟨d, od, rfl, .inl ⟨kvs, (vis h1).1, ?_⟩⟩)
        exact forK_run I (it_keysK h1 e) (hg N.H0) (hb N.H0) hp.unE
  · rename_i es
    cases es with
    | nil =>
      cases ek
      cases rv with
      | dt rd e r =>
        rename_i d kvs
        cases kvs with
        | cons _ _ => cases e
        | nil =>
          have it0 : ∀ {N : Cn} {B : Addr → Bool} {H : Hp} {od : Obj}, mask H B d = some (.frz od (.dT [])) → ItOk N.K N.ca (Itkt d od []) B H [] := fun {N B H od} hd B2 H2 s lv =>
            ⟨fun i x ex => by simp at ex, fun i hi => ⟨mask_le _ _ (s _ _ hd), Nat.zero_le _⟩⟩
          rcases rd with h1 | ⟨od, h1⟩
          · obtain ⟨h2, hB⟩ := vis h1
            refine .inl ⟨d, _, h2, trivial, fun od => ?_⟩
            have h0 : ∀ o, N.H0 d = some o → o = .dT [] := fun o ho => by
              have := I.fr d o (fun j hj => by have := I.bb d (I.cb j d hj); rw [hB] at this; cases this) ho
              rw [h2] at this; exact (Option.some.inj this).symm
            have I' := I.lk (od := od) h2 (show isDH (.dT []) from trivial) hB
            have p' := unlock_ok (od := od) (show isDH (.dT []) from trivial) h2 hB h0 hp
            refine hv _ _ (fun a C dx fs ha => by rw [upd_ne (fun z => by rw [z, h2] at ha; cases ha)]; exact ha) ⟨d, od, rfl, .inr ⟨[], upd_same, ?_⟩⟩
            exact forK_run (N := lkN N d od (.dT [])) I' (it0 (N := lkN N d od (.dT [])) (mask_get hB upd_same)) (hg _) (hb _) p'
          · refine .inr (hv H _ (fun a C dx fs ha => ha) ⟨d, od, rfl, .inr ⟨[], (vis h1).1, ?_⟩⟩)
            exact forK_run I (it0 h1) (hg N.H0) (hb N.H0) hp.unE
    | cons e es => cases ek
end

/-! ### M24. a constant of a class; x in o by an own __contains__ -/
section
variable {N : Cn}
theorem se_cval {C : Addr} {mc u : Value} {f : Str} {i : Int} (r : ClX.CRead N.K C mc) (k : ClX.CVal N.K C mc f (.int i) u) : SE N (ClX.tCVal N.K (tC (.ref C)) f) (mC (.int i)) := by
  intro B ρ σ H Q I hp
  exact ⟨C, mc, .int i, u, rfl, r, k, hp.ok I Stp.rfl (.int i)⟩
theorem se_cvalE {C : Addr} {mc : Value} {f : Str} {i : Int} (r : ClX.CRead N.K C mc) (k : ∃ u, ClX.CVal N.K C mc f (.int i) u) : SE N (ClX.tCVal N.K (tC (.ref C)) f) (mC (.int i)) := let ⟨_, k⟩ := k; se_cval r k
theorem ss_never : SS N tNever (fun _ => .no) := fun _ _ _ _ _ _ h => h.elim
end
def sNever : MS := fun _ => .no
theorem kx_sortS {X : Cx} {K : PySem.W.Frag} (h : X.K = K) : CallR X (.builtin "sorted") (rSortedS K) := h ▸ cr_sortedS
theorem kx_any {X : Cx} {K : PySem.W.Frag} (h : X.K = K) (hc : X.calm = true) : CallR X (.builtin "any") (rAny K) := h ▸ cr_any hc
section
variable {X : Cx} {k j : Nat} {C : Addr} {sp : Sp} {E : XK} {i o : Expr} {tx ty : TE}
def tOIn (neg : Bool) (C : Addr) (sp : Sp) (E : XK) (ty tx : TE) : TE := fun σ H Q => ty σ H fun y H1 => tx σ H1 fun x H2 => ∃ a dx fs, x = .ref a ∧ H2 a = some (.ins C dx fs) ∧ sp [.ref a, y] H2 (fun v H3 => ∃ b, v = .bl b ∧ Q (.bl (if neg then !b else b)) H3) E
theorem contains_run {pins : List (Addr × Obj)} {σ : L2.St} {H : Hp} {s : Shared} {a dx f : Addr} {fs : List (Str × V)} {uy : Value} {y : V} {fd : FuncData} {ps : List Str} {Q : Bool → Shared → Prop} {CX : CXT} {Qv : VK}
    (I : Inv X pins σ H s) (ea : H a = some (.ins C dx fs)) (hm : Meth X.K C "__contains__" f) (F : FnOk X.prog X.w X.K X.mg X.base CX k f fd ps sp) (hr : Room k X.A) (hb : Binds X.K fd ps []) (hx : Passes CX X E) (ry : RelV y uy)
    (h : sp [.ref a, y] H Qv E) (hv : ∀ v H3 s', Inv X pins σ H3 s' → Qv v H3 → ∃ b, v = .bl b ∧ Q b s') : wpAny (model X.prog X.w) X.A (contains (.ref a) uy) Q X.xe s := by
  obtain ⟨mA, O, _, _, _, _⟩ := ins_get I.hok ea
  obtain ⟨od, J, _⟩ := O.look
  have hf : PySem.W.typeIn X.K (.ref f) = some (.type "function") := beq_iff_eq.mp hm.fn
  unfold contains
  refine wpAny_holding ?_
  show wpAny _ _ (specialOf (.ref a) "__contains__" >>= _) _ _ _
  refine wpAny_bind (wpAny_bind (J.type.here ((PySem.W.looks_findIn I.kIn hm.at_).here ?_)))
  show wpAny _ _ (if (some (Value.ref f) == some Value.none) = true then _ else _) _ _ _
  rw [if_neg (by simp)]
  refine wpAny_bind ?_
  unfold callSpecialUnlessNone?
  refine wpAny_bind (wpAny_bind (J.type.here ((PySem.W.looks_findIn I.kIn hm.at_).here (wpAny_holding (wpAny_bind ((PySem.W.bind_fn I.kIn _ hf).here ?_))))))
  show wpAny _ _ (if (Value.ref f == Value.none) = true then _ else _) _ _ _
  rw [if_neg (by simp)]
  refine wpAny_bind (thn (run_fn (us := [.ref a, uy]) (vs := [.ref a, y]) F hr hb .nil hx I (.cons rfl (.cons ry .nil)) h) fun v s' hw => ?_)
  obtain ⟨v', H3, I3, rv, q⟩ := hw
  obtain ⟨b, rfl, q2⟩ := hv v' H3 s' I3 q
  cases rv
  refine wpAny_pure ?_
  show wpAny _ _ (truthy (.bool b)) _ _ _
  exact wpAny_truthy_bool q2
theorem pc_oin (c : C8.Met X.prog X.w X.K X.mg X.base k C "__contains__" sp []) (hr : Room j X.A) (hk : k ≤ j) (hi : PE X i ty) (ho : PE X o tx) : PC X .In i o (tOIn false C sp E0 ty tx) := by
  obtain ⟨f, fd, ps, ds, hc, hm, F, b, d⟩ := c.ex
  cases d
  refine ⟨fun pins s σ H Q I h => ?_⟩
  refine thn (hi.run pins s σ H _ I h) fun iv s1 ⟨y, H1, I1, ry, q1⟩ => thn (ho.run pins s1 σ H1 _ I1 q1) fun u s2 ⟨x, H2, I2, rx, a, dx, fs, ex, ea, q2⟩ => ?_
  subst ex
  obtain rfl : u = Value.ref a := rx
  show wpAny (model X.prog X.w) X.A (contains (.ref a) iv >>= fun b => pure (Value.bool b)) (EP X pins σ Q) X.xe s2
  exact wpAny_bind (contains_run I2 ea hm F (hr.mono hk) b pass0 ry q2 fun v H3 s' I3 ⟨b, e, q⟩ => ⟨b, e, wpAny_pure ⟨.bl b, H3, I3, rfl, q⟩⟩)
theorem pc_onin (c : C8.Met X.prog X.w X.K X.mg X.base k C "__contains__" sp []) (hr : Room j X.A) (hk : k ≤ j) (hi : PE X i ty) (ho : PE X o tx) : PC X .NotIn i o (tOIn true C sp E0 ty tx) := by
  obtain ⟨f, fd, ps, ds, hc, hm, F, b, d⟩ := c.ex
  cases d
  refine ⟨fun pins s σ H Q I h => ?_⟩
  refine thn (hi.run pins s σ H _ I h) fun iv s1 ⟨y, H1, I1, ry, q1⟩ => thn (ho.run pins s1 σ H1 _ I1 q1) fun u s2 ⟨x, H2, I2, rx, a, dx, fs, ex, ea, q2⟩ => ?_
  subst ex
  obtain rfl : u = Value.ref a := rx
  show wpAny (model X.prog X.w) X.A (contains (.ref a) iv >>= fun b => pure (Value.bool (!b))) (EP X pins σ Q) X.xe s2
  exact wpAny_bind (contains_run I2 ea hm F (hr.mono hk) b pass0 ry q2 fun v H3 s' I3 ⟨b, e, q⟩ => ⟨b, e, wpAny_pure ⟨.bl (!b), H3, I3, rfl, q⟩⟩)
end

def mOIn (neg : Bool) (c : Str) (ks : List Kd) (m : Mr) (fy fx : MM Pl) : MM D := fun ρ => (fy ρ).bind fun y => (fx y.2).bind fun x => (Rs.of (plD x.2 x.1)).bind fun d0 => if isObjD c "__contains__" d0 = true ∧ isNwP x.1 = false ∧ isNwP y.1 = false then
  (mMethK ks [x.1, y.1] x.2 (noEr m)).bind fun z => (Rs.of (dBl z.1)).bind fun b => .ok (.bl (if neg then !b else b), z.2) else .no
section
variable {N : Cn} {ks : List Kd} {ty tx : TE} {fy fx : MM Pl} {m : Mr} {E' : XK} {c : Str}
theorem se_oin {neg : Bool} (hy : SPl N ty fy) (hx : SPl N tx fx) : SE N (tOIn neg (N.ca c) (spM N.K N.ca ks false false m) E' ty tx) (mOIn neg c ks m fy fx) := by
  intro B ρ σ H Q I hp
  unfold tOIn
  unfold mOIn at hp
  refine Post.next back_E hy I hp fun vy py ρ1 B1 H1 I1 s1 r1 q => ?_
  refine Post.next back_E hx I1 q fun vx px ρ2 B2 H2 I2 s2 r2 q => ?_
  obtain ⟨d0, e0, q⟩ := q.opt
  obtain ⟨⟨ho, hnx, hny⟩, q⟩ := q.iff
  obtain ⟨a, dx, fv, rfl, h1, h2⟩ := isObj_of (bor_of I2 r2.1 e0) ho
  refine ⟨a, dx, fv, rfl, h1, ?_⟩
  refine spM_of (meth_end (m := noEr m) (B := B2) (ρ := ρ2) (H := H2) I2 Stp.rfl (rA_cons r2.1 hnx (rA_cons (r1.1.up s2 I1) hny ⟨.nil, .nil, fun _ h => nomatch h⟩)) ?_)
  cases em : mMethK ks [px, py] ρ2 (noEr m) with
  | no => simp only [em] at q; exact q.elim
  | er cc fl =>
    exfalso
    unfold mMethK noEr at em
    cases ea : argsD ks [px, py] ρ2 with
    | none => rw [ea] at em; cases em
    | some ds =>
      rw [ea] at em
      simp only [Rs.of, Rs.bind] at em
      split at em
      · cases mm : m ds with
        | no => simp only [mm] at em; cases em
        | er c2 f2 => simp only [mm] at em; cases em
        | ok r => simp only [mm] at em; cases em
      · cases em
  | ok z =>
    simp only [em] at q
    intro v B3 H3 I3 s3 r3
    obtain ⟨b, eb, q⟩ := q.opt
    exact ⟨b, rep_bl r3 eb, q (.bl _) B3 H3 I3 s3 (.bl _)⟩
end

/-! ### M25. name = {..: .. for ..}; fields within a comprehension; a raising def whose answer is new -/
section
variable {X : Cx}
theorem sw_trueD {kx vx : Expr} {gs : List Comprehension} {scope : Scope} {pos py : Pos} {y : Str} {l : Nat} {env : Env} (hk : env.scope.kind = .function) (hy : env.scope.names.lookup y = some .local) (hl : (py.line == pos.line) = true)
    (ha : (scope.names.any fun (n, k) => n == y && (k == .local || k == .cell)) = false) : swapsWith (.DictComp kx vx gs scope pos) (some (.Name y py)) l env = pure true := by
  have ky : env.kindOf y = some .local := hy
  have hb : env.blockKind = .function := by unfold Env.blockKind; rw [hk]; rfl
  unfold swapsWith
  simp only [hb, ky, ha, Expr.pos, hl]
  rfl
theorem ps_setDc {i : Nat} {y : Str} {py : Pos} {kx vx tg iter : Expr} {ifs : List Expr} {scope : Scope} {own : List (Str × Nat)} {pos spos : Pos} {wi : TI} {g : TG} {tt : TT} {tk tv : TE} (hc : X.calm = true) (hN : X.N.Nodup) (hy : X.N[i]? = some y) (hyl : X.env.scope.names.lookup y = some .local)
    (hsw : swapsWith (.DictComp kx vx [⟨tg, iter, ifs, 0⟩] scope pos) (some (.Name y py)) spos.line X.env = pure true) (hi : PI X tg iter wi) (ok : BlkOk X.N X.env.scope scope own)
    (hg : ∀ (s : Shared) (H : Hp) (C : Addr) (cl : List (Str × Addr)) (fp : List Addr), PG (X.blk s H scope (compEnvC scope cl C X.env) fp) tg g) (ht : ∀ (s : Shared) (H : Hp) (C : Addr) (cl : List (Str × Addr)) (fp : List Addr), PTs (X.blk s H scope (compEnvC scope cl C X.env) fp) ifs tt)
    (hk : ∀ (s : Shared) (H : Hp) (C : Addr) (cl : List (Str × Addr)) (fp : List Addr), PE (X.blk s H scope (compEnvC scope cl C X.env) fp) kx tk)
    (he : ∀ (s : Shared) (H : Hp) (C : Addr) (cl : List (Str × Addr)) (fp : List Addr), PE (X.blk s H scope (compEnvC scope cl C X.env) fp) vx tv) (hs : ∀ x, foldedSetIterable iter X.env x = pure x := by intro _; rfl) :
    PS X (.Assign [.Name y py] (.DictComp kx vx [⟨tg, iter, ifs, 0⟩] scope pos) spos) (tAsg (tDc wi g tt tk tv (own.map (·.2))) (gName i)) := by
  refine ⟨fun pins s σ H D I h => ?_⟩
  rw [exec_Assign_Name_used _ _ _ _ hsw]
  refine wpAny_bind (wpAny_standAt (wpAny_bind ?_))
  show wpAny _ X.A (do let _ ← comprehension (.DictComp kx vx [⟨tg, iter, ifs, 0⟩] scope pos) scope X.env (firstIterPos [⟨tg, iter, ifs, 0⟩] pos) newDict false (eval iter X.env) (some (assign (.Name y py) X.env))) _ _ s
  have h : tDc wi g tt tk tv (own.map (·.2)) σ H (fun x H1 => gName i x σ H1 D.nx) := h
  refine wpAny_bind (thn (dc_core (Qf := fun _ s' => SP X pins D .next s') hc hN I hi ok hg ht hk he hs h fun L C s' m H' I' q hn f => ?_) fun _ s' hq => wpAny_pure (wpAny_pure hq))
  show wpAny _ _ (assign (.Name y py) X.env (.ref L)) _ _ _
  refine wpAny_assign_Name (store_ok2 (v := V.ref L) I' hN hy (.inl hyl) rfl (fun s2 I2 ⟨a, sb, ha⟩ => ?_) (.inr hyl))
  obtain ⟨f0, f1, f2, f3, f4, f5⟩ := f
  have haC : C ≠ a := by
    rcases ha with z | z
    · rw [z]; exact f1
    · exact fun e => f4 y a z e.symm
  refine ⟨m, hn.sameBut sb haC, fun h3 sb3 => ?_⟩
  exact ⟨_, H', I2.turned (t' := s2.toks) (fun b o hb e => (sb3.2 b hb).trans e) f0 f1 f3 f4 f5, q⟩
theorem kx_fld {K : PySem.W.Frag} {e : Expr} {f : Str} {pos : Pos} {ta : TE} (h : X.K = K) (he : PE X e ta) (hb : attributeBase e f X.env (eval e X.env) = eval e X.env) : PE X (.Attribute e f pos) (tFld K ta f) := h ▸ pe_fld he hb
end
section
variable {N : Cn} {B B' B1 B2 : Addr → Bool} {ρ ρ' ρ1 ρ2 : Env'} {σ σ' : L2.St} {H H' H1 H2 : Hp} {ks : List Kd} {ta : TA} {fa : MM (List Pl)} {m : Mr}
theorem sn_callX (ha : SA N ta fa) : SN N (tCall (spM N.K N.ca ks true true m) [] N.E ta) (mCallX ks m fa) := by
  intro B ρ σ H Q I hp
  unfold mCallX at hp
  refine ha B ρ σ H _ I ?_
  cases e1 : fa ρ with
  | no => rw [e1] at hp; exact hp
  | er c fs => rw [e1] at hp; exact hp
  | ok x =>
    rw [e1] at hp
    intro vs B1 H1 I1 s1 r1
    simp only [Rs.bind] at hp
    cases ea : argsD ks x.1 x.2 with
    | none => rw [ea] at hp; exact hp.elim
    | some ds =>
      rw [ea] at hp
      simp only [Rs.of] at hp
      obtain ⟨ok, hp⟩ := hp.ofOk
      show spM N.K N.ca ks true true m (vs ++ []) H1 Q N.E
      rw [List.append_nil]
      refine ⟨B1, ds, io_spa I1 r1.1 r1.2.1 ea ok, ?_⟩
      cases em : m ds with
      | no => rw [em] at hp; exact hp.elim
      | er c fs => rw [em] at hp; exact ⟨rfl, xok_call I1 r1.1 ea hp⟩
      | ok y =>
        rw [em] at hp
        rintro v H' B2 hf ho ⟨p, o, rfl, hp0, ho', rfl, hc⟩
        have nC : ∀ j, cOf ks vs j ≠ some p := fun j hj => by
          obtain ⟨_, _, _, _, _, _, _, _, hh, _⟩ := io_at I1 r1.1 ea hj
          rw [hp0] at hh; cases hh
        obtain ⟨I2, s2, _⟩ := call_core I1 s1 r1 ea (fun _ h => add_of h) (fun b h h' => by
          by_cases q : b = p
          · rw [q, ho']; intro z; cases z
          · rw [addB_ne q, h'] at h; cases h) (fun s a u e => by
            have := s a u e
            have na : a ≠ p := ne_of_none (mask_le _ _ e) hp0
            unfold mask at this ⊢
            show (if addB B1 p a = true then none else H' a) = some u
            rw [addB_ne na]; exact this) hf ho
        have f2 : Free (putIo ks x.1 y.2 x.2) σ p := fun i d e z => by
          obtain ⟨w, e1, h⟩ := putIo_get e
          have : ∃ d, x.2[i]? = some (Sl.o d) := by
            rcases h with ⟨l, d', _, _, _, q⟩ | ⟨rfl, _⟩
            · obtain ⟨z, rfl⟩ := put_tag q.symm; exact ⟨z, e1⟩
            · exact ⟨d, e1⟩
          obtain ⟨d, e1⟩ := this
          exact I1.free hp0 i d e1 z
        refine hp (.ref p) _ H' I2 s2 ⟨⟨p, o, rfl, I1.no0 hp0, add_self, f2, ho', hc⟩, fun q u h1 h2 hc e z => ?_⟩
        cases z
        obtain ⟨e1, _, _⟩ := s1.tm p u h1 h2 hc e
        rw [hp0] at e1; cases e1
end

/-! ### M26. evaluation: loops, ifs, calls -/
section
variable {α β : Type}
theorem bind_ite {c : Prop} [Decidable c] {a b : Rs α} {f : α → Rs β} {i : Tg f} : @Rs.bind α β (if c then a else b) f i = if c then a.bind f else b.bind f := by split <;> rfl
theorem out_ite {c : Prop} [Decidable c] {a b : Rs α} {f : α → Out} {i : Tg f} : @Rs.out α (if c then a else b) f i = if c then a.out f else b.out f := by split <;> rfl
theorem seq_ite {c : Prop} [Decidable c] {a b : Out} {f : MS} {i : Tg f} : @Out.seq (if c then a else b) f i = if c then a.seq f else b.seq f := by split <;> rfl
theorem of_ite {c : Prop} [Decidable c] {a b : Option α} : Rs.of (if c then a else b) = if c then Rs.of a else Rs.of b := by split <;> rfl
theorem runK_ite {c : Prop} [Decidable c] {a b : Out} {rn : Bool} {ks : List Kd} : runK rn ks (if c then a else b) = if c then runK rn ks a else runK rn ks b := by split <;> rfl
theorem runK_er {rn : Bool} {ks : List Kd} {c : Str} {fs : List (Str × D)} : runK rn ks (.er c fs) = .er c fs := by cases rn <;> rfl
end
/-! one turn of a loop -/
def aftB (w : MS) (o : Out) : Out := match o with
  | .nx ρ => w ρ
  | .ct ρ => w ρ
  | .bk ρ => .nx ρ
  | .no => .no
  | .rt n d ρ => .rt n d ρ
  | .er c fs => .er c fs
section
variable {w : MS} {ρ : Env'}
theorem aft_nx : aftB w (.nx ρ) = w ρ := Eq.trans rfl rfl
theorem aft_ct : aftB w (.ct ρ) = w ρ := Eq.trans rfl rfl
theorem aft_bk : aftB w (.bk ρ) = .nx ρ := Eq.trans rfl rfl
theorem aft_no : aftB w .no = .no := Eq.trans rfl rfl
theorem aft_rt {n : Bool} {d : D} : aftB w (.rt n d ρ) = .rt n d ρ := Eq.trans rfl rfl
theorem aft_er {c : Str} {fs : List (Str × D)} : aftB w (.er c fs) = .er c fs := Eq.trans rfl rfl
theorem aft_ite {c : Prop} [Decidable c] {a b : Out} : aftB w (if c then a else b) = if c then aftB w a else aftB w b := by split <;> rfl
end
def trnF (mg : MG) (body w : MS) (d : D) : MS := fun ρ => (Rs.of (mg d ρ)).out fun ρ1 => aftB w (body ρ1)
def trnW (c : MM Bool) (body w : MS) : MS := fun ρ => (c ρ).out fun x => if x.1 = true then aftB w (body x.2) else .nx x.2
theorem trnF_ap {mg : MG} {body w : MS} {d : D} {ρ : Env'} : trnF mg body w d ρ = (Rs.of (mg d ρ)).out fun ρ1 => aftB w (body ρ1) := Eq.trans rfl rfl
theorem trnW_ap {c : MM Bool} {body w : MS} {ρ : Env'} : trnW c body w ρ = (c ρ).out fun x => if x.1 = true then aftB w (body x.2) else .nx x.2 := Eq.trans rfl rfl
theorem forL_nil {mg : MG} {body : MS} {ρ : Env'} : forL mg body [] ρ = .nx ρ := Eq.trans rfl rfl
theorem forL_cons {mg : MG} {body : MS} {d : D} {ds : List D} {ρ : Env'} : forL mg body (d :: ds) ρ = trnF mg body (forL mg body ds) d ρ := by
  unfold trnF
  conv => lhs; unfold forL
  cases e : mg d ρ with
  | none => rfl
  | some ρ1 =>
    show (match body ρ1 with
      | .nx ρ2 => forL mg body ds ρ2
      | .ct ρ2 => forL mg body ds ρ2
      | .bk ρ2 => .nx ρ2
      | .no => .no
      | .rt n d ρ2 => .rt n d ρ2
      | .er c fs => .er c fs) = aftB _ (body ρ1)
    cases body ρ1 <;> rfl
theorem sWhile_trn {c : MM Bool} {body : MS} {ρ : Env'} : sWhile c body ρ = trnW c body (sWhile c body) ρ := by
  rw [sWhile_turn]
  unfold turnW trnW
  refine out_ext fun x => ?_
  by_cases h : x.1 = true
  · rw [if_pos h, if_pos h]; cases body x.2 <;> rfl
  · rw [if_neg h, if_neg h]
/-- a for by an invariant of what is left -/
theorem for_ind {mg : MG} {body : MS} (P : List D → Env' → Prop) (R : Out → Prop) (h0 : ∀ ρ, P [] ρ → R (.nx ρ)) (hs : ∀ d ds ρ (w : MS), P (d :: ds) ρ → (∀ ρ', P ds ρ' → R (w ρ')) → R (trnF mg body w d ρ)) :
    ∀ ds ρ, P ds ρ → R (forL mg body ds ρ)
  | [], ρ, h => h0 ρ h
  | d :: ds, ρ, h => by
    rw [forL_cons]
    exact hs d ds ρ _ h fun ρ' h' => for_ind P R h0 hs ds ρ' h'
/-- a while by a measure -/
theorem while_ind {c : MM Bool} {body : MS} (P : Nat → Env' → Prop) (R : Out → Prop) (hs : ∀ n ρ (w : MS), P n ρ → (∀ m ρ', m < n → P m ρ' → R (w ρ')) → R (trnW c body w ρ)) : ∀ n ρ, P n ρ → R (sWhile c body ρ) := by
  intro n
  induction n using Nat.strongRecOn with
  | ind n ih =>
    intro ρ h
    rw [sWhile_trn]
    exact hs n ρ _ h fun m ρ' hm h' => ih m hm ρ' h'
/-- a slot that may be stored to -/
theorem gNk_f {ρ : Env'} {i : Nat} {d : D} {s : Sl} (h : isI s = false) : gNk ρ i d (some s) = some (ρ.set i (.v d)) := by show (if isI s = true then none else some (ρ.set i (.v d))) = _; rw [if_neg (by rw [h]; exact Bool.false_ne_true)]
theorem putSK_f {ρ : Env'} {i : Nat} {s t : Sl} (h : isI s = false) : putSK ρ i t (some s) = .nx (ρ.set i t) := by show (if isI s = true then Out.no else .nx (ρ.set i t)) = _; rw [if_neg (by rw [h]; exact Bool.false_ne_true)]
theorem isI_v {d : D} : isI (.v d) = false := Eq.trans rfl rfl
theorem isI_o {d : D} : isI (.o d) = false := Eq.trans rfl rfl
theorem isI_b {d : D} : isI (.b d) = false := Eq.trans rfl rfl
theorem isI_e : isI .e = false := Eq.trans rfl rfl
/-! raising calls, methods, makers -/
def callKX (ks : List Kd) (ps : List Pl) (ρ : Env') : Rs (D × List D) → Rs (D × Env')
  | .ok r => .ok (r.1, putIo ks ps r.2 ρ)
  | .er c fs => .er c fs
  | .no => .no
section
variable {fs : MM (List Pl)} {fa : MM Pl} {ρ : Env'} {ks : List Kd} {ps : List Pl} {mm : Mr} {c mn : Str} {r : D × List D} {ds : List D}
theorem mCallX_ap : mCallX ks mm fs ρ = (fs ρ).bind fun x => (Rs.of (argsD ks x.1 x.2)).bind fun ds => if okIo ks x.1 = true then callKX ks x.1 x.2 (mm ds) else .no := by
  unfold mCallX callKX
  rfl
theorem callKX_ok : callKX ks ps ρ (.ok r) = .ok (r.1, putIo ks ps r.2 ρ) := Eq.trans rfl rfl
theorem callKX_er {fl : List (Str × D)} : callKX ks ps ρ (.er c fl) = .er c fl := Eq.trans rfl rfl
theorem callKX_ite {c : Prop} [Decidable c] {a b : Rs (D × List D)} : callKX ks ps ρ (if c then a else b) = if c then callKX ks ps ρ a else callKX ks ps ρ b := by split <;> rfl
theorem callK_ite {c : Prop} [Decidable c] {a b : Rs (D × List D)} : callK ks ps ρ (if c then a else b) = if c then callK ks ps ρ a else callK ks ps ρ b := by split <;> rfl
theorem mMethK_ap : mMethK ks ps ρ mm = (Rs.of (argsD ks ps ρ)).bind fun ds => if okIo ks ps = true then callKX ks ps ρ (mm ds) else .no := by
  unfold mMethK callKX
  rfl
theorem mMeth_ap : mMeth c mn ks mm fa fs ρ = (fa ρ).bind fun x => (Rs.of (plD x.2 x.1)).bind fun d0 => if isObjD c mn d0 = true ∧ isNwP x.1 = false then (fs x.2).bind fun y => mMethK ks (x.1 :: y.1) y.2 mm else .no := Eq.trans rfl rfl
def noErK : Rs (D × List D) → Rs (D × List D)
  | .er _ _ => .no
  | r => r
theorem noEr_ap : noEr mm ds = noErK (mm ds) := by unfold noEr noErK; rfl
theorem noErK_ok : noErK (.ok r) = .ok r := Eq.trans rfl rfl
theorem mMake_ap : mMake c ks mm fs ρ = (fs ρ).bind fun y => (Rs.of (argsD (.i :: ks) (.n (.obj c []) :: y.1) y.2)).bind fun ds => if okIo (.i :: ks) (.n (.obj c []) :: y.1) = true then mMakeK (.i :: ks) (.n (.obj c []) :: y.1) y.2 (mm ds) else .no := Eq.trans rfl rfl
theorem mMakeK_ok {o : D} {os : List D} : mMakeK ks ps ρ (.ok (.non, o :: os)) = .ok (o, putIo ks ps (o :: os) ρ) := Eq.trans rfl rfl
theorem mMakeK_er {fl : List (Str × D)} : mMakeK ks ps ρ (.er c fl) = .er c fl := Eq.trans rfl rfl
theorem isNwP_v {d : D} : isNwP (.v d) = false := Eq.trans rfl rfl
theorem isNwP_s {i : Nat} : isNwP (.s i) = false := Eq.trans rfl rfl
theorem gFld_ap {c f : Str} {fl : List (Str × D)} : gFld c f (.obj c fl) = fl.lookup f := by unfold gFld; simp
theorem gPutF_ap {c f : Str} {fl : List (Str × D)} {d : D} (h : fl.length < 1000) : gPutF c f (.obj c fl) d = some (.obj c (putFD f d fl)) := by
  unfold gPutF
  simp [h]
theorem sFldS_ap {h : D → D → Option D} {i : Nat} {f : MM D} : sFldS h i f ρ = (f ρ).out fun x => (Rs.of (slotMut x.2 i)).out fun c => (Rs.of (h c x.1)).out fun c' => (Rs.of (x.2[i]?)).out fun s => .nx (x.2.set i (s.put c')) := by
  unfold sFldS
  rfl
theorem sRaise_ap {c : Str} {fl : List Str} : sRaise c fl fs ρ = (fs ρ).out fun x => (Rs.of (vals x.1)).out fun ds => if ds.length = fl.length then .er c (fl.zip ds).reverse else .no := Eq.trans rfl rfl
theorem mOIn_ap {neg : Bool} {fy fx : MM Pl} : mOIn neg c ks mm fy fx ρ = (fy ρ).bind fun y => (fx y.2).bind fun x => (Rs.of (plD x.2 x.1)).bind fun d0 => if isObjD c "__contains__" d0 = true ∧ isNwP x.1 = false ∧ isNwP y.1 = false then
  (mMethK ks [x.1, y.1] x.2 (noEr mm)).bind fun z => (Rs.of (dBl z.1)).bind fun b => .ok (.bl (if neg then !b else b), z.2) else .no := Eq.trans rfl rfl
theorem mDNewK_ap : mDNewK ρ = .ok (.dk [], ρ) := Eq.trans rfl rfl
theorem mDNewT_ap : mDNewT ρ = .ok (.dt [], ρ) := Eq.trans rfl rfl
theorem gDGet_k {es : List (Key × D)} {k : D} : gDGet (.dk es) k = (keyD k).bind fun k => dval es k := Eq.trans rfl rfl
theorem keyD_s {x : List Nat} : keyD (.str x) = some (.inr (S x)) := Eq.trans rfl rfl
theorem keyD_i {i : Int} : keyD (.int i) = some (.inl i) := Eq.trans rfl rfl
theorem gDHas_k {es : List (Key × D)} {k : D} : gDHas (.dk es) k = (keyD k).map fun k => (dval es k).isSome := Eq.trans rfl rfl
theorem gDIn_ap {neg : Bool} {k d : D} : gDIn neg k d = (gDHas d k).map fun b => .bl (if neg then !b else b) := Eq.trans rfl rfl
theorem gDPut_k {es : List (Key × D)} {k d : D} : gDPut (.dk es) k d = (keyD k).bind fun k => if es.length < sizeLine then some (.dk (dput es k d)) else none := Eq.trans rfl rfl
theorem sForK_ap {f : MK} {mg : MG} {body : MS} : sForK f mg body ρ = (Rs.of (f ρ)).out fun z => (Rs.of (gKeys z)).out fun ds => noE (forL mg body ds ρ) := Eq.trans rfl rfl
theorem gKeys_k {es : List (Key × D)} : gKeys (.dk es) = some (es.map fun e => keyDd e.1) := Eq.trans rfl rfl
theorem noE_nx : noE (.nx ρ) = .nx ρ := Eq.trans rfl rfl
theorem noE_rt {n : Bool} {d : D} : noE (.rt n d ρ) = .rt n d ρ := Eq.trans rfl rfl
theorem kFld_ap {c g : Str} {f : MK} : kFld c g f ρ = (f ρ).bind (gFld c g) := Eq.trans rfl rfl
def kVK : Option Sl → Option D
  | some (.v d) => some d
  | _ => none
theorem kVar_ap {i : Nat} : kVar i ρ = kVK ρ[i]? := Eq.trans rfl rfl
theorem kVK_v {d : D} : kVK (some (.v d)) = some d := Eq.trans rfl rfl
end
theorem gSigns_s {x : List Nat} : gSigns (.str x) = some (x.map fun c => .str [c]) := Eq.trans rfl rfl
theorem gInSign_s {n : Bool} {c : Nat} {z : List Nat} : gInSign n (.str [c]) (.str z) = some (.bl (if n then !decide (c ∈ z) else decide (c ∈ z))) := Eq.trans rfl rfl
theorem gIxS_s {x : List Nat} {i : Int} : gIxS (.str x) (.int i) = if x.length ≤ sizeLine then (atI x i).map fun c => .str [c] else none := Eq.trans rfl rfl
theorem gLenS_s {x : List Nat} : gLenS [.str x] = if x.length ≤ sizeLine then some (.int x.length) else none := Eq.trans rfl rfl
theorem sNever_ap {ρ : Env'} : sNever ρ = .no := Eq.trans rfl rfl
theorem gSlS_s {x : List Nat} {lo hi : Option Int} : gSlS (.str x) lo hi = if x.length ≤ sizeLine then some (.str (sliceL x lo hi)) else none := Eq.trans rfl rfl
theorem gSlT_t {x : List D} {lo hi : Option Int} : gSlT (.tup x) lo hi = if HT.sIx x.length 0 lo = 0 ∧ HT.sIx x.length x.length hi = x.length then none else some (.tup (cutD x lo hi)) := Eq.trans rfl rfl
theorem mChain_ap {g g' : D → D → Option D} {fa fb fc : MM Pl} {ρ : Env'} : mChain g g' fa fb fc ρ = (fa ρ).bind fun x => (fb x.2).bind fun y => (Rs.of (plD y.2 x.1)).bind fun d => (Rs.of (plD y.2 y.1)).bind fun e => (Rs.of (g d e)).bind fun z =>
  (Rs.of (dBl z)).bind fun k => if k = true then (fc y.2).bind fun w => (Rs.of (plD w.2 y.1)).bind fun e2 => (Rs.of (plD w.2 w.1)).bind fun u => (Rs.of (g' e2 u)).bind fun z => .ok (z, w.2) else .ok (.bl false, y.2) := Eq.trans rfl rfl
theorem fld_eq {f : Str} {d : D} {l : List (Str × D)} : ((f, d) :: l).lookup f = some d := by simp [List.lookup]
theorem fld_ne {f g : Str} {d : D} {l : List (Str × D)} (h : ¬ f = g) : ((g, d) :: l).lookup f = l.lookup f := by
  have : (f == g) = false := by simpa using h
  simp [List.lookup, this]
theorem putFD_eq {f : Str} {v x : D} {l : List (Str × D)} : putFD f v ((f, x) :: l) = (f, v) :: l := if_pos rfl
theorem putFD_ne {f g : Str} {v x : D} {l : List (Str × D)} (h : ¬ g = f) : putFD f v ((g, x) :: l) = (g, x) :: putFD f v l := if_neg h
theorem putFD_nil {f : Str} {v : D} : putFD f v [] = [(f, v)] := Eq.trans rfl rfl
theorem isObj_in {c mn : Str} {fl : List (Str × D)} (h : fl.lookup mn = none) : isObjD c mn (.obj c fl) = true := by
  show (c == c && (List.lookup mn fl).isNone) = true
  rw [h]
  simp
theorem tyD_s {x : List Nat} : tyD (.str x) = some "str" := Eq.trans rfl rfl
theorem gIsT_ap {d : D} {n : String} : gIsT [d, .ty n] = (tyD d).bind fun t => (kitB t n).map D.bl := Eq.trans rfl rfl
theorem gEqS_ss {neg : Bool} {x y : List Nat} : gEqS neg (.str x) (.str y) = some (.bl (if neg then !decide (x = y) else decide (x = y))) := by
  unfold gEqS scD
  have e : eqV (V.str (S x)) (V.str (S y)) = (x == y) := SX.S_beq x y
  have e2 : decide (V.str (S x) = V.str (S y)) = decide (x = y) := by
    by_cases h : x = y
    · subst h; simp
    · have : ¬ V.str (S x) = V.str (S y) := fun z => h (by
        injection z with z
        have := congrArg (fun s : Str => s.cps.toList) z
        exact this)
      simp [h, this]
  show (if scal (V.str (S x)) (V.str (S y)) = true then some (D.bl (if neg = true then !decide (V.str (S x) = V.str (S y)) else decide (V.str (S x) = V.str (S y)))) else none) = _
  rw [if_pos (show scal (V.str (S x)) (V.str (S y)) = true from rfl), e2]
theorem gNeg_i {i : Int} : gNeg (.int i) = some (.int (-i)) := Eq.trans rfl rfl

/-! ### M27. evaluation: comprehensions -/
def noErS {α : Type} (r : Rs α) : Rs α := match r with
  | .ok x => .ok x
  | _ => .no
theorem noErS_ok {α : Type} {x : α} : noErS (.ok x) = .ok x := Eq.trans rfl rfl
theorem noErS_ite {α : Type} {c : Prop} [Decidable c] {a b : Rs α} : noErS (if c then a else b) = if c then noErS a else noErS b := by split <;> rfl
def wipK (ρ : Env') (v : Nat) : Option Sl → Option Env'
  | some x => if isI x = true then none else some (ρ.set v .e)
  | none => none
theorem wipeM_nil {ρ : Env'} : wipeM [] ρ = some ρ := Eq.trans rfl rfl
theorem wipeM_cons {v : Nat} {vs : List Nat} {ρ : Env'} : wipeM (v :: vs) ρ = (wipeM vs ρ).bind fun ρ' => wipK ρ' v ρ'[v]? := by
  unfold wipK
  show (wipeM vs ρ).bind _ = _
  congr 1
theorem wipK_f {ρ : Env'} {v : Nat} {s : Sl} (h : isI s = false) : wipK ρ v (some s) = some (ρ.set v .e) := by
  show (if isI s = true then none else some (ρ.set v .e)) = _
  rw [if_neg (by rw [h]; exact Bool.false_ne_true)]
theorem wipK_v {ρ : Env'} {v : Nat} {d : D} : wipK ρ v (some (.v d)) = some (ρ.set v .e) := wipK_f rfl
theorem wipK_e {ρ : Env'} {v : Nat} : wipK ρ v (some .e) = some (ρ.set v .e) := wipK_f rfl
theorem wipK_o {ρ : Env'} {v : Nat} {d : D} : wipK ρ v (some (.o d)) = some (ρ.set v .e) := wipK_f rfl
def trnL (mg : MG) (mt : MM Bool) (me : MM D) (vs : List Nat) (w : List D → Env' → Rs (List D × Env')) (d : D) (acc : List D) (ρ : Env') : Rs (List D × Env') :=
  (Rs.of (mg d ρ)).bind fun ρ1 => (noErS (mt ρ1)).bind fun x => if x.1 = true then (noErS (me x.2)).bind fun y => if acc.length < sizeLine then (Rs.of (wipeM vs y.2)).bind fun ρ4 => w (acc ++ [y.1]) ρ4 else .no
    else (Rs.of (wipeM vs x.2)).bind fun ρ4 => w acc ρ4
theorem trnL_ap {mg : MG} {mt : MM Bool} {me : MM D} {vs : List Nat} {w : List D → Env' → Rs (List D × Env')} {d : D} {acc : List D} {ρ : Env'} : trnL mg mt me vs w d acc ρ =
  (Rs.of (mg d ρ)).bind fun ρ1 => (noErS (mt ρ1)).bind fun x => if x.1 = true then (noErS (me x.2)).bind fun y => if acc.length < sizeLine then (Rs.of (wipeM vs y.2)).bind fun ρ4 => w (acc ++ [y.1]) ρ4 else .no
    else (Rs.of (wipeM vs x.2)).bind fun ρ4 => w acc ρ4 := Eq.trans rfl rfl
theorem lcL_nil {mg : MG} {mt : MM Bool} {me : MM D} {vs : List Nat} {acc : List D} {ρ : Env'} : lcL mg mt me vs [] acc ρ = (Rs.of (wipeM vs ρ)).bind fun ρ' => .ok (acc, ρ') := Eq.trans rfl rfl
theorem lcL_cons {mg : MG} {mt : MM Bool} {me : MM D} {vs : List Nat} {d : D} {ds acc : List D} {ρ : Env'} : lcL mg mt me vs (d :: ds) acc ρ = trnL mg mt me vs (lcL mg mt me vs ds) d acc ρ := by
  unfold trnL
  conv => lhs; unfold lcL
  cases mg d ρ with
  | none => rfl
  | some ρ1 =>
    show _ = (noErS (mt ρ1)).bind _
    cases h : mt ρ1 with
    | no => simp only [h]; rfl
    | er c fs => simp only [h]; rfl
    | ok x =>
      obtain ⟨b, ρ2⟩ := x
      cases b with
      | false => simp only [h]; rfl
      | true =>
        simp only [h]
        show _ = (noErS (me ρ2)).bind _
        cases h2 : me ρ2 with
        | no => rfl
        | er c fs => rfl
        | ok y => rfl
theorem lc_ind {mg : MG} {mt : MM Bool} {me : MM D} {vs : List Nat} (P : List D → List D → Env' → Prop) (R : Rs (List D × Env') → Prop) (h0 : ∀ acc ρ, P [] acc ρ → R ((Rs.of (wipeM vs ρ)).bind fun ρ' => .ok (acc, ρ')))
    (hs : ∀ d ds acc ρ w, P (d :: ds) acc ρ → (∀ acc' ρ', P ds acc' ρ' → R (w acc' ρ')) → R (trnL mg mt me vs w d acc ρ)) : ∀ ds acc ρ, P ds acc ρ → R (lcL mg mt me vs ds acc ρ)
  | [], acc, ρ, h => by rw [lcL_nil]; exact h0 acc ρ h
  | d :: ds, acc, ρ, h => by
    rw [lcL_cons]
    exact hs d ds acc ρ _ h fun acc' ρ' h' => lc_ind P R h0 hs ds acc' ρ' h'
def trnD (mg : MG) (mt : MM Bool) (mk me : MM D) (vs : List Nat) (w : List (Key × D) → Env' → Rs (List (Key × D) × Env')) (d : D) (acc : List (Key × D)) (ρ : Env') : Rs (List (Key × D) × Env') :=
  (Rs.of (mg d ρ)).bind fun ρ1 => (noErS (mt ρ1)).bind fun x => if x.1 = true then (noErS (mk x.2)).bind fun z => (noErS (me z.2)).bind fun y => (Rs.of (keyD z.1)).bind fun k => if acc.length < sizeLine then (Rs.of (wipeM vs y.2)).bind fun ρ4 => w (dput acc k y.1) ρ4 else .no
    else (Rs.of (wipeM vs x.2)).bind fun ρ4 => w acc ρ4
theorem trnD_ap {mg : MG} {mt : MM Bool} {mk me : MM D} {vs : List Nat} {w : List (Key × D) → Env' → Rs (List (Key × D) × Env')} {d : D} {acc : List (Key × D)} {ρ : Env'} : trnD mg mt mk me vs w d acc ρ =
  (Rs.of (mg d ρ)).bind fun ρ1 => (noErS (mt ρ1)).bind fun x => if x.1 = true then (noErS (mk x.2)).bind fun z => (noErS (me z.2)).bind fun y => (Rs.of (keyD z.1)).bind fun k => if acc.length < sizeLine then (Rs.of (wipeM vs y.2)).bind fun ρ4 => w (dput acc k y.1) ρ4 else .no
    else (Rs.of (wipeM vs x.2)).bind fun ρ4 => w acc ρ4 := Eq.trans rfl rfl
theorem dcL_nil {mg : MG} {mt : MM Bool} {mk me : MM D} {vs : List Nat} {acc : List (Key × D)} {ρ : Env'} : dcL mg mt mk me vs [] acc ρ = (Rs.of (wipeM vs ρ)).bind fun ρ' => .ok (acc, ρ') := Eq.trans rfl rfl
theorem dcL_cons {mg : MG} {mt : MM Bool} {mk me : MM D} {vs : List Nat} {d : D} {ds : List D} {acc : List (Key × D)} {ρ : Env'} : dcL mg mt mk me vs (d :: ds) acc ρ = trnD mg mt mk me vs (dcL mg mt mk me vs ds) d acc ρ := by
  unfold trnD
  conv => lhs; unfold dcL
  cases mg d ρ with
  | none => rfl
  | some ρ1 =>
    show _ = (noErS (mt ρ1)).bind _
    cases h : mt ρ1 with
    | no => simp only [h]; rfl
    | er c fs => simp only [h]; rfl
    | ok x =>
      obtain ⟨b, ρ2⟩ := x
      cases b with
      | false => simp only [h]; rfl
      | true =>
        simp only [h]
        show _ = (noErS (mk ρ2)).bind _
        cases h2 : mk ρ2 with
        | no => rfl
        | er c fs => rfl
        | ok z =>
          obtain ⟨kd, ρk⟩ := z
          show _ = (noErS (me ρk)).bind _
          cases h3 : me ρk with
          | no => simp only [h3]; rfl
          | er c fs => simp only [h3]; rfl
          | ok y =>
            simp only [h3]
            show _ = (Rs.of (keyD kd)).bind _
            cases h4 : keyD kd with
            | none => rfl
            | some k => rfl
theorem dc_ind {mg : MG} {mt : MM Bool} {mk me : MM D} {vs : List Nat} (P : List D → List (Key × D) → Env' → Prop) (R : Rs (List (Key × D) × Env') → Prop) (h0 : ∀ acc ρ, P [] acc ρ → R ((Rs.of (wipeM vs ρ)).bind fun ρ' => .ok (acc, ρ')))
    (hs : ∀ d ds acc ρ w, P (d :: ds) acc ρ → (∀ acc' ρ', P ds acc' ρ' → R (w acc' ρ')) → R (trnD mg mt mk me vs w d acc ρ)) : ∀ ds acc ρ, P ds acc ρ → R (dcL mg mt mk me vs ds acc ρ)
  | [], acc, ρ, h => by rw [dcL_nil]; exact h0 acc ρ h
  | d :: ds, acc, ρ, h => by
    rw [dcL_cons]
    exact hs d ds acc ρ _ h fun acc' ρ' h' => dc_ind P R h0 hs ds acc' ρ' h'
theorem mDc_ap {fi : MM (List D)} {mg : MG} {mt : MM Bool} {mk me : MM D} {vs : List Nat} {ρ : Env'} : mDc fi mg mt mk me vs ρ = (fi ρ).bind fun x => (Rs.of (wipeM vs x.2)).bind fun ρ1 => (dcL mg mt mk me vs x.1 [] ρ1).bind fun y => .ok (.dk y.1, y.2) := Eq.trans rfl rfl
theorem gSortD_0 : gSortD [.dk []] = some (.lst []) := by
  have : (0 : Nat) < 64 := by decide
  unfold gSortD
  simp [keyStr, srtL]
theorem gTpl_l {xs : List D} : gTpl [.lst xs] = some (.tup xs) := Eq.trans rfl rfl
theorem gTpl_t {xs : List D} : gTpl [.tup xs] = some (.tup xs) := Eq.trans rfl rfl
theorem gLst_l {xs : List D} : gLst [.lst xs] = some (.lst xs) := Eq.trans rfl rfl
theorem gLst_t {xs : List D} : gLst [.tup xs] = some (.lst xs) := Eq.trans rfl rfl
theorem gIsN_ap {neg : Bool} {d : D} : gIsN neg d .non = some (.bl (if neg then !isNon d else isNon d)) := Eq.trans rfl rfl
theorem isNon_n : isNon .non = true := Eq.trans rfl rfl
theorem isNon_s {x : List Nat} : isNon (.str x) = false := Eq.trans rfl rfl
theorem isNon_t {x : List D} : isNon (.tup x) = false := Eq.trans rfl rfl
theorem isNon_l {x : List D} : isNon (.lst x) = false := Eq.trans rfl rfl
/-- a comprehension whose turns leave the state as it was -/
theorem lc_map {α : Type} {mg : MG} {mt : MM Bool} {me : MM D} {vs : List Nat} {ρ : Env'} (enc : α → D) (r : α → Option D) : ∀ (xs : List α) (acc : List D), (∀ x ∈ xs, ∀ acc w, acc.length < sizeLine → trnL mg mt me vs w (enc x) acc ρ = match r x with
    | some y => w (acc ++ [y]) ρ
    | none => w acc ρ) → wipeM vs ρ = some ρ → acc.length + xs.length ≤ sizeLine → lcL mg mt me vs (xs.map enc) acc ρ = .ok (acc ++ xs.filterMap r, ρ)
  | [], acc, _, hw, _ => by rw [List.map_nil, lcL_nil, hw, List.filterMap_nil, List.append_nil]; rfl
  | x :: xs, acc, h, hw, hl => by
    rw [List.length_cons] at hl
    rw [List.map_cons, lcL_cons, h x List.mem_cons_self acc _ (by omega), List.filterMap_cons]
    cases r x with
    | none => exact lc_map enc r xs acc (fun y hy => h y (List.mem_cons_of_mem _ hy)) hw (by omega)
    | some y =>
      show lcL mg mt me vs (List.map enc xs) (acc ++ [y]) ρ = Rs.ok (acc ++ y :: List.filterMap r xs, ρ)
      rw [lc_map enc r xs (acc ++ [y]) (fun y hy => h y (List.mem_cons_of_mem _ hy)) hw (by rw [List.length_append]; simp; omega), List.append_assoc]
      rfl
theorem dc_map {α : Type} {mg : MG} {mt : MM Bool} {mk me : MM D} {vs : List Nat} {ρ : Env'} (enc : α → D) (r : α → Key × D) : ∀ (xs : List α) (acc : List (Key × D)), (∀ x ∈ xs, ∀ acc w, acc.length < sizeLine → trnD mg mt mk me vs w (enc x) acc ρ = w (dput acc (r x).1 (r x).2) ρ) → wipeM vs ρ = some ρ → acc.length + xs.length ≤ sizeLine →
    dcL mg mt mk me vs (xs.map enc) acc ρ = .ok (xs.foldl (fun a x => dput a (r x).1 (r x).2) acc, ρ)
  | [], acc, _, hw, _ => by rw [List.map_nil, dcL_nil, hw]; rfl
  | x :: xs, acc, h, hw, hl => by
    rw [List.length_cons] at hl
    rw [List.map_cons, dcL_cons, h x List.mem_cons_self acc _ (by omega)]
    have := dput_len acc (r x).1 (r x).2
    exact dc_map enc r xs _ (fun y hy => h y (List.mem_cons_of_mem _ hy)) hw (by omega)
theorem runK_no {rn : Bool} {ks : List Kd} : runK rn ks .no = .no := by cases rn <;> rfl

/-! ### M33. several targets at once -/
def rDP : L2.TSet := fun x y v H Q => ∃ a H4, x = .ref a ∧ DPut H a y v H4 ∧ Q H4
section
variable {X : Cx}
theorem pset_dput (hu : X.A.units + 1 < cLine) : PSet X rDP := by
  intro pins s σ H o i v ov iv u Q I ro ri rv ⟨a, H4, e, g, q⟩
  subst e
  obtain rfl : ov = Value.ref a := ro
  exact d_setItem hu I g ri rv fun s' I' => ⟨H4, I', q⟩
end
/-- a target that may change an object -/
abbrev MGH := D → MS
def SGH (N : Cn) (g : TG) (m : MGH) : Prop := ∀ B ρ σ H v d W, Iv N B ρ σ H → Rep N.K N.ca (mask H B) v d → PostS N B H W (m d ρ) → g v σ H W.nx
def SGHs (N : Cn) (g : TGs) (m : List D → MS) : Prop := ∀ B ρ σ H vs ds W, Iv N B ρ σ H → RepA N.K N.ca (mask H B) vs ds → PostS N B H W (m ds ρ) → g vs σ H W.nx
def hName (i : Nat) : MGH := fun d ρ => putSl ρ i (.v d)
def hSub (g : D → D → D → Option D) (i : Nat) (fi : MM Pl) : MGH := fun d ρ => (Rs.of (slotMut ρ i)).out fun _ => (fi ρ).out fun y => (Rs.of (plD y.2 y.1)).out fun k => (Rs.of (slotMut y.2 i)).out fun c => (Rs.of (g c k d)).out fun c' =>
  (Rs.of (y.2[i]?)).out fun s => .nx (y.2.set i (s.put c'))
def hNil : List D → MS := fun ds ρ => match ds with
  | [] => .nx ρ
  | _ :: _ => .no
def hCo (m : MGH) (ms : List D → MS) : List D → MS := fun ds ρ => match ds with
  | [] => .no
  | d :: ds => (m d ρ).seq (ms ds)
def hTp (n : Nat) (ms : List D → MS) : MGH := fun d ρ => (Rs.of (tupOf d)).out fun ds => if ds.length = n then ms ds ρ else .no
def sAsgH (f : MM D) (m : MGH) : MS := fun ρ => (f ρ).out fun x => m x.1 x.2
def putPs : List Nat → List Pl → MS
  | [], [], ρ => .nx ρ
  | i :: is, p :: ps, ρ => (Rs.of (plSl p)).out fun s => (putSl ρ i s).seq (putPs is ps)
  | _, _, _ => .no
def sParL (is : List Nat) (fs : MM (List Pl)) : MS := fun ρ => (fs ρ).out fun x => putPs is x.1 x.2
def gNames (is : List Nat) : TGs := is.foldr (fun i t => gCons (gName i) t) gNil
section
variable {N : Cn} {B B' B1 B2 : Addr → Bool} {ρ ρ' ρ1 ρ2 : Env'} {σ σ' : L2.St} {H H' H1 H2 : Hp} {te ti : TE} {f : MM D} {fi : MM Pl} {t : TA} {fs : MM (List Pl)} {W : Ends} {i : Nat} {g : TG} {gs : TGs} {m : MGH} {ms : List D → MS} {n : Nat}
theorem PostS.ofSeq {o : Out} {k : MS} {W' : Ends} (q : PostS N B H W (o.seq k)) (h : ∀ ρ' σ' B' H', Iv N B' ρ' σ' H' → SameH (mask H B) (mask H' B') → PostS N B' H' W (k ρ') → W'.nx σ' H')
    (hb : W'.bk = W.bk) (hc : W'.ct = W.ct) (hr : W'.rt = W.rt) : PostS N B H W' o := by
  cases o with
  | no => exact q
  | er c fs => exact q
  | nx ρ' => exact fun σ' B' H' I' s' => h ρ' σ' B' H' I' s' (PostS.from s' q)
  | bk ρ' => exact fun σ' B' H' I' s' => by rw [hb]; exact q σ' B' H' I' s'
  | ct ρ' => exact fun σ' B' H' I' s' => by rw [hc]; exact q σ' B' H' I' s'
  | rt nw d ρ' => cases nw <;> (unfold PostS; rw [hr]; exact q)
theorem sgh_name : SGH N (gName i) (hName i) := by
  intro B ρ σ H v d W I r q
  unfold hName at q
  obtain ⟨x, e, hx, q⟩ := q.ofPut
  exact q _ B H (I.store e hx r) SameH.rfl
theorem sgh_sub {r : TSet} {g : D → D → D → Option D} (hr : MSub N.K N.ca r g) (hi : SPl N ti fi) : SGH N (L2.gSub (tVar i) ti r) (hSub g i fi) := by
  intro B1 ρ1 σ H1 v d W I1 r1 q
  unfold hSub at q
  obtain ⟨c0, e0, q⟩ := q.opt
  obtain ⟨a, o, hσ, hB, hH, hc, k⟩ := I1.mutAt e0
  refine ⟨.ref a, hσ, ?_⟩
  refine Post.out hi I1 q fun kv kp ρ2 B2 H2 I2 s2 r2 q => ?_
  obtain ⟨kd, ek, q⟩ := q.opt
  obtain ⟨c, ec, q⟩ := q.opt
  obtain ⟨c', eg, q⟩ := q.opt
  obtain ⟨s, es, q⟩ := q.opt
  obtain ⟨a', o1, hσ', hB1, hH1, hc1, k1⟩ := I2.mutAt ec
  rw [hσ] at hσ'; cases hσ'
  have hm : s.mut = some c := by
    obtain ⟨x, ex, hx⟩ := slotMut_get ec
    rw [ex] at es; cases es; exact hx
  refine hr H2 B2 a o1 c kv kd v d c' _ I2.tr hH1 hc1 (bor_of I2 r2.1 ek) (r1.up s2.sm) eg fun o' ct => ?_
  obtain ⟨I3, s3⟩ := I2.setCt es hm hσ hH1 ct
  exact q σ B2 _ I3 s3.sm
theorem sghs_nil : SGHs N gNil hNil := by
  intro B ρ σ H vs ds W I r q
  cases r with
  | nil => exact ⟨rfl, q σ B H I SameH.rfl⟩
  | cons _ _ => exact q.elim
theorem sghs_cons (h : SGH N g m) (h' : SGHs N gs ms) : SGHs N (gCons g gs) (hCo m ms) := by
  intro B ρ σ H vs ds W I r q
  cases r with
  | nil => exact q.elim
  | @cons v vs d ds r rs =>
    refine ⟨v, vs, rfl, ?_⟩
    refine h B ρ σ H v d { W with nx := fun σ' H' => gs vs σ' H' W.nx } I r ?_
    refine PostS.ofSeq (k := ms ds) q (fun ρ' σ' B' H' I' s' q' => ?_) rfl rfl rfl
    exact h' B' ρ' σ' H' vs ds W I' (rs.up s') q'
theorem sgh_tup (h : SGHs N gs ms) : SGH N (gTup N.K n gs) (hTp n ms) := by
  intro B ρ σ H v d W I r q
  unfold hTp at q
  obtain ⟨ds, ed, q⟩ := q.opt
  have key : ∃ a xs, v = .ref a ∧ SqT N.K H a xs ∧ RepA N.K N.ca (mask H B) xs ds := by
    cases d <;> first | (cases ed; done) | skip
    · cases r with
      | tup h r => cases ed; exact ⟨_, _, rfl, SqT.of (mask_le _ _ h), r⟩
    · cases r with
      | tpq h r => cases ed; exact ⟨_, _, rfl, sqT_up mask_le h, r⟩
  obtain ⟨a, xs, rfl, hx, rx⟩ := key
  by_cases hn : ds.length = n
  · rw [if_pos hn] at q
    exact ⟨a, xs, rfl, hx, by rw [rx.len]; exact hn, h B ρ σ H xs ds W I rx q⟩
  · rw [if_neg hn] at q; exact q.elim
theorem ss_asgH (h : SE N te f) (hg : SGH N g m) : SS N (tAsg te g) (sAsgH f m) := by
  intro B ρ σ H W I hp
  refine Post.out (k := fun x => m x.1 x.2) h I hp fun v d ρ1 B1 H1 I1 s1 r1 q => ?_
  exact hg B1 ρ1 σ H1 v d W I1 r1 q
theorem putPs_len : ∀ {is : List Nat} {ps : List Pl} {ρ : Env'}, PostS N B H W (putPs is ps ρ) → ps.length = is.length
  | [], [], _, _ => rfl
  | [], _ :: _, _, q => q.elim
  | _ :: _, [], _, q => q.elim
  | i :: is, p :: ps, ρ, q => by
    unfold putPs at q
    obtain ⟨s, es, q⟩ := q.opt
    obtain ⟨x, ex, hx, q⟩ := q.ofSeqPut
    have := putPs_len q
    simp [this]
theorem putPs_sound : ∀ {is : List Nat} {vs : List V} {ps : List Pl} {ρ : Env'} {σ : L2.St}, Iv N B ρ σ H → PlsOk N σ B ρ H vs ps → (nws vs ps).Nodup → (∀ w p, (w, p) ∈ vs.zip ps → plSl p ≠ none) → PostS N B H W (putPs is ps ρ) → gNames is vs σ H W.nx
  | [], vs, [], ρ, σ, I, h, _, _, q => by
    cases h
    exact ⟨rfl, q σ B H I SameH.rfl⟩
  | [], _, _ :: _, _, _, _, _, _, _, q => q.elim
  | _ :: _, _, [], _, _, _, _, _, _, q => q.elim
  | i :: is, vs, p :: ps, ρ, σ, I, h, hnd, hz, q => by
    cases h with
    | @cons v vs _ _ h1 hpl =>
      unfold putPs at q
      obtain ⟨s, es, q⟩ := q.opt
      obtain ⟨x, ex, hx, q⟩ := q.ofSeqPut
      obtain ⟨I2, st⟩ := I.storeP ex hx h1 es
      refine ⟨v, vs, rfl, ?_⟩
      refine putPs_sound I2 ?_ (nws_tl hnd) (fun w p hm => hz w p (List.mem_cons_of_mem _ hm)) q
      have : ∀ {ws : List V} {qs : List Pl}, PlsOk N σ B ρ H ws qs → (∀ w q, (w, q) ∈ ws.zip qs → (w, q) ∈ vs.zip ps) → PlsOk N (σ.set i (some v)) B (ρ.set i s) H ws qs := by
        intro ws qs hq hm
        induction hq with
        | nil => exact .nil
        | @cons w ws q qs h2 _ ih =>
          have hin := hm w q (by rw [List.zip_cons_cons]; exact List.mem_cons_self)
          exact .cons (st w q h2 (hz w q (List.mem_cons_of_mem _ hin)) (nws_ne hnd hin)) (ih fun w q hw => hm w q (by rw [List.zip_cons_cons]; exact List.mem_cons_of_mem _ hw))
      exact this hpl fun _ _ h => h
theorem putPs_pl : ∀ {is : List Nat} {ps : List Pl} {ρ : Env'}, PostS N B H W (putPs is ps ρ) → ∀ p ∈ ps, plSl p ≠ none
  | _, [], _, _, _, h => nomatch h
  | [], _ :: _, _, q, _, _ => q.elim
  | i :: is, p :: ps, ρ, q, p', hm => by
    unfold putPs at q
    obtain ⟨s, es, q⟩ := q.opt
    obtain ⟨x, ex, hx, q⟩ := q.ofSeqPut
    rcases List.mem_cons.mp hm with e | h
    · subst e; rw [es]; intro z; cases z
    · exact putPs_pl q p' h
theorem ss_parL {is : List Nat} (hn : is.length = n) (hl : n ≤ sizeLine) (hg : gs = gNames is) (h : SA N t fs) : SS N (tAsg (tTup t) (gTup N.K n gs)) (sParL is fs) := by
  subst hg
  intro B ρ σ H W I hp
  show t σ H fun xs H1 => xs.length ≤ sizeLine ∧ ∀ p, H1 p = none → gTup N.K n (gNames is) (.ref p) σ (upd H1 p (.tup xs)) W.nx
  unfold sParL at hp
  refine Post.out h I hp fun vs ps ρ1 B1 H1 I1 s1 r1 q => ?_
  obtain ⟨hpl, hnd, _⟩ := r1
  have e1 : ps.length = is.length := putPs_len q
  have e2 := hpl.len
  refine ⟨by omega, fun p hp => ⟨p, vs, rfl, SqT.of upd_same, by omega, ?_⟩⟩
  have sh : SameH H1 (upd H1 p (.tup vs)) := SameH.new hp
  refine putPs_sound (I1.grow sh) (hpl.up (stp_grow sh) I1) hnd (fun w p hm => putPs_pl q p (List.of_mem_zip hm).2) (PostS.from (mask_up sh) q)
end
section
variable {ρ : Env'} {f : MM D} {fs : MM (List Pl)} {i : Nat} {m : MGH} {ms : List D → MS} {n : Nat} {d : D} {ds : List D} {fi : MM Pl}
theorem sParL_ap {is : List Nat} : sParL is fs ρ = (fs ρ).out fun x => putPs is x.1 x.2 := Eq.trans rfl rfl
theorem putPs_nil : putPs [] [] ρ = .nx ρ := Eq.trans rfl rfl
theorem putPs_cons {is : List Nat} {p : Pl} {ps : List Pl} : putPs (i :: is) (p :: ps) ρ = (Rs.of (plSl p)).out fun s => (putSl ρ i s).seq fun ρ => putPs is ps ρ := by
  show putPs (i :: is) (p :: ps) ρ = _
  unfold putPs
  rfl
theorem plSl_vv : plSl (.v d) = some (.v d) := Eq.trans rfl rfl
theorem sAsgH_ap : sAsgH f m ρ = (f ρ).out fun x => m x.1 x.2 := Eq.trans rfl rfl
theorem hName_ap : hName i d ρ = putSl ρ i (.v d) := Eq.trans rfl rfl
theorem hSub_ap {g : D → D → D → Option D} : hSub g i fi d ρ = (Rs.of (slotMut ρ i)).out fun _ => (fi ρ).out fun y => (Rs.of (plD y.2 y.1)).out fun k => (Rs.of (slotMut y.2 i)).out fun c => (Rs.of (g c k d)).out fun c' =>
  (Rs.of (y.2[i]?)).out fun s => .nx (y.2.set i (s.put c')) := Eq.trans rfl rfl
theorem hNil_ap : hNil [] ρ = .nx ρ := Eq.trans rfl rfl
theorem hCo_ap : hCo m ms (d :: ds) ρ = (m d ρ).seq fun ρ => ms ds ρ := Eq.trans rfl rfl
theorem hTp_t : hTp n ms (.tup ds) ρ = if ds.length = n then ms ds ρ else .no := Eq.trans rfl rfl
theorem hTp_q : hTp n ms (.tpq ds) ρ = if ds.length = n then ms ds ρ else .no := Eq.trans rfl rfl
end
/-! a comprehension within a comprehension: its scope -/
def relab (sc outer : Scope) : Scope := { sc with names := sc.names.map fun (n, k) => if (k == NameKind.free && outer.kind == .function && outer.names.lookup n == some .cell) then (n, NameKind.cell) else (n, k) }
theorem blkOk_rel {N : List Str} {outer sc inner : Scope} {own : List (Str × Nat)} {env : Env} (h : env.scope = outer) (hb : blkC N (relab sc outer) inner own = true) : BlkOk N (relabel sc env) inner own := by
  subst h
  exact blkOk_by hb

/-! ### M34. try: what a suite gives back -/
def ownS : Sl → Bool
  | .o _ => true
  | .i _ => true
  | _ => false
/-- the suite only gives something back -/
def sTryR (mb : MS) (hx : Str → List (Str × D) → Rs D) : MS := fun ρ => if ρ.any ownS = false then match mb ρ with
    | .er c fs => (hx c fs).out fun x => .rt false x ρ
    | o => o
  else .no
section
variable {N : Cn} {B B' B1 B2 : Addr → Bool} {ρ ρ' ρ1 ρ2 : Env'} {σ σ' : L2.St} {H H' H1 H2 : Hp} {W : Ends}
theorem noOwn_o (h : ρ.any ownS = false) {j : Nat} {d : D} (e : ρ[j]? = some (.o d)) : False := by
  have := List.any_eq_false.mp h _ (List.mem_of_getElem? e)
  exact this rfl
theorem noOwn_i (h : ρ.any ownS = false) {j : Nat} {d : D} (e : ρ[j]? = some (.i d)) : False := by
  have := List.any_eq_false.mp h _ (List.mem_of_getElem? e)
  exact this rfl
theorem Iv.toTry (I : Iv N B ρ σ H) (h : ρ.any ownS = false) (E' : XK) : Iv ⟨N.K, N.ca, H, fun _ => none, N.B0, E'⟩ B ρ σ H where
  fr := fun _ _ _ e => e
  cb := fun j b e => nomatch e
  ci := fun j k b e => nomatch e
  ck := fun j b e => nomatch e
  bb := I.bb
  bh := fun b hb => I.tr b (I.bb b hb)
  tr := I.tr
  ln := I.ln
  sl := fun j x e => by
    have := I.sl j x e
    cases x with
    | e => trivial
    | v d => exact this
    | o d => exact (noOwn_o h e).elim
    | i d => exact (noOwn_i h e).elim
    | b d =>
      obtain ⟨v, ev, r | ⟨a, o, h1, h2, h3, h4, c⟩⟩ := this
      · exact ⟨v, ev, .inl r⟩
      · exact ⟨v, ev, .inr ⟨a, o, h1, h2, fun _ z => (nomatch z), h4, c⟩⟩
  ds := fun j k x y a _ e => (noOwn_o h e).elim
theorem Iv.ofTry {E' : XK} (I : Iv N B ρ σ H) (h : ρ.any ownS = false) (J : Iv ⟨N.K, N.ca, H, fun _ => none, N.B0, E'⟩ B' ρ' σ' H') : Iv N B' ρ' σ' H' where
  fr := fun b o hc e => J.fr b o (fun _ z => (nomatch z)) (I.fr b o hc e)
  cb := I.cb
  ci := I.ci
  ck := fun j b e => by obtain ⟨d, hd⟩ := I.ck j b e; exact (noOwn_i h hd).elim
  bb := J.bb
  bh := I.bh
  tr := J.tr
  ln := J.ln
  sl := fun j x e => by
    have := J.sl j x e
    cases x with
    | e => trivial
    | v d => exact this
    | o d =>
      obtain ⟨a, o, h1, h2, h3, h4, h5, c⟩ := this
      exact ⟨a, o, h1, h2, h3, I.no0 h4, h5, c⟩
    | i d =>
      obtain ⟨a, o, h1, h2, _⟩ := this
      exact nomatch h2
    | b d =>
      obtain ⟨v, ev, r | ⟨a, o, h1, h2, h3, h4, c⟩⟩ := this
      · exact ⟨v, ev, .inl r⟩
      · exact ⟨v, ev, .inr ⟨a, o, h1, h2, fun j z => by obtain ⟨d, hd⟩ := I.ck j a z; exact (noOwn_i h hd).elim, h4, c⟩⟩
  ds := J.ds
/-- what is not to be leant on shrinks to what the caller said -/
theorem Iv.least (I : Iv N B ρ σ H) (h : ρ.any ownS = false) : Iv N N.B0 ρ σ H where
  fr := I.fr
  cb := I.cb
  ci := I.ci
  ck := I.ck
  bb := fun _ hb => hb
  bh := I.bh
  tr := fun b hb => I.tr b (I.bb b hb)
  ln := I.ln
  sl := fun j x e => by
    have := I.sl j x e
    have sm : SameH (mask H B) (mask H N.B0) := mask_sub fun x hx => I.bb x hx
    cases x with
    | e => trivial
    | v d => obtain ⟨v, e, r⟩ := this; exact ⟨v, e, r.up sm⟩
    | o d => exact (noOwn_o h e).elim
    | i d => exact (noOwn_i h e).elim
    | b d =>
      obtain ⟨v, ev, r | ⟨a, o, h1, h2, h3, h4, c⟩⟩ := this
      · exact ⟨v, ev, .inl (r.up sm)⟩
      · exact ⟨v, ev, .inr ⟨a, o, h1, h2, h3, h4, c.up sm⟩⟩
  ds := I.ds
/-- the suite's wish: the error's fields are there -/
def HxOk (K : PySem.W.Frag) (ca : Str → Addr) (cv : Value) (i : Nat) (ts : Addr → Value → Option Addr → TS) (Wout : WX) (hx : Str → List (Str × D) → Rs D) : Prop :=
  ∀ (c : Str) (fs : List (Str × D)) (x : D) (dx : Addr) (fv : List (Str × V)) (H' : Hp) (B : Addr → Bool) (W : Ends) (σ : L2.St), hx c fs = .ok x → H' dx = some (.xd fv) → fv.map (·.1) = fs.map (·.1) → RepA K ca (mask H' B) (fv.map (·.2)) (fs.map (·.2)) → i < σ.length →
    (∀ v H'', SameH H' H'' → Rep K ca (mask H'' B) v x → W.rt v H'') → wAs K cv i ts Wout W (.ref (ca c)) (some dx) σ H'
theorem ss_tryR {tb : XK → TS} {mb : MS} {cv : Value} {i n : Nat} {ts : Addr → Value → Option Addr → TS} {Wout : WX} {hx : Str → List (Str × D) → Rs D} (hn : i < n)
    (hb : ∀ EE H0 C B0, SS ⟨N.K, N.ca, H0, C, B0, EE⟩ (tb EE) mb) (hne : ∀ c fs c' fs', hx c fs ≠ .er c' fs') (hh : HxOk N.K N.ca cv i ts Wout hx) :
    SS N (fun D σ H => tb (fun cls d H2 => ∀ σ : L2.St, σ.length = n → wAs N.K cv i ts Wout D cls d σ H2) D σ H) (sTryR mb hx) := by
  intro B ρ σ H W I hp
  unfold sTryR at hp
  by_cases hρ : ρ.any ownS = false
  · rw [if_pos hρ] at hp
    refine hb _ _ _ _ B ρ σ H W (I.toTry hρ _) ?_
    cases e : mb ρ with
    | no => rw [e] at hp; exact hp
    | bk ρ' => rw [e] at hp; exact fun σ' B' H' J s => hp σ' B' H' (I.ofTry hρ J) s
    | ct ρ' => rw [e] at hp; exact fun σ' B' H' J s => hp σ' B' H' (I.ofTry hρ J) s
    | nx ρ' => rw [e] at hp; exact fun σ' B' H' J s => hp σ' B' H' (I.ofTry hρ J) s
    | rt nw d ρ' =>
      rw [e] at hp
      cases nw with
      | false => exact fun v σ' B' H' J s r => hp v σ' B' H' (I.ofTry hρ J) s r
      | true =>
        refine fun v σ' B' H' J s r => hp v σ' B' H' (I.ofTry hρ J) s ?_
        obtain ⟨p, o, h1, h2, h3⟩ := r
        exact ⟨p, o, h1, I.no0 h2, h3⟩
    | er c fs =>
      rw [e] at hp
      have hp : PostS N B H W ((hx c fs).out fun x => .rt false x ρ) := hp
      show XOk _ c fs
      intro dx H' fv h0 hfr hx' hk hr σ' hl
      cases ex : hx c fs with
      | no => rw [ex] at hp; exact hp.elim
      | er c' fs' => exact (hne c fs _ _ ex).elim
      | ok x =>
        rw [ex] at hp
        have sH : SameH H H' := fun b o e => hfr b o (fun _ z => nomatch z) e
        refine hh c fs x dx fv H' N.B0 W σ' ex hx' hk hr (by omega) fun v H'' s2 rv => ?_
        have I2 := (I.grow (sH.tr s2)).least hρ
        exact hp v σ N.B0 H'' I2 ((mask_up (sH.tr s2)).tr (mask_sub fun x hx => I.bb x hx)) rv
  · rw [if_neg hρ] at hp; exact hp.elim
end
section
variable {X : Cx}
theorem passes_len {W : WX} (tk : Takes X W) {n : Nat} (hn : X.N.length = n) : Passes (L2.CX X.prog X.w) X (fun cls d H => ∀ σ : L2.St, σ.length = n → W cls d σ H) := fun _ σ _ _ e s' I c => tk e s' (XE.of_call I (fun _ _ _ h => h σ (by rw [I.len]; exact hn)) c)
end

/-! ### M35. defs that are run where no text of a container is under way (repr) -/
structure FnG (P : Program) (w : World) (K : PySem.W.Frag) (mg : Str → Option Value) (base : Heap) (CX : CXT) (k : Nat) (f : Addr) (fd : FuncData) (ps : List Str) (sp : Sp) : Prop where
  len : ∀ vs H Q E, sp vs H Q E → vs.length = ps.length
  run : ∀ (A : Around) (outer : List Env) (s : Shared) (H : Hp) (args : Args) (us : List Value) (vs : List V) (Q : VK) (E : XK), Room k A → A.guards = some [] → Env0 P w K mg base A outer s H → BindsTo s fd args (ps.zip us) → Vals vs us → sp vs H Q E →
    codeAny (model P w) A (.call (.ref f) args) (CR CX outer P w H s Q E) s
section
variable {P : Program} {w : World} {K : PySem.W.Frag} {mg : Str → Option Value} {base : Heap}
theorem Fun.okG {x qual : Str} {st : Stmt} {f : Addr} {fd : FuncData} {N ps : List Str} {k : Nat} {sp : Sp} (F : Fun K x qual st f fd) (S : FnScope N ps (defScope st)) (len : ∀ vs H Q E, sp vs H Q E → vs.length = ps.length)
    (hbody : ∀ (cdv : Value) (A : Around) (outer : List Env) (s : Shared) (H : Hp) (vs : List V) (Q : VK) (E : XK), Room k (A.deeper (envOfC qual (defScope st) s.heap.objs.size f cdv)) → A.guards = some [] → sp vs H Q E →
      ∃ t, PSs (cxOf CX0 P w K mg base N qual (defScope st) f cdv A outer s H E).nox (defBody st) t ∧ t { nx := fun _ H' => Q .non H', rt := Q } (L2.start N vs) H) : FnG P w K mg base CX0 (k + 1) f fd ps sp := by
  obtain ⟨oc, od, kV, doc, pm, an, cdv, ct, osl, rfl, lk, hcd⟩ := F.ex
  refine ⟨len, fun A outer s H args us vs Q E hr hg e0 hb r hsp => ?_⟩
  have KX : K.In s.heap := e0.mod.kin.keeps fun b o e => (e0.bs b o e).1
  refine codeAny_call_function hr.depth (KX _ _ lk) rfl S.co S.gen rfl (PySem.W.codeRec_of KX hcd) (hb _ _ _ _ ?_)
  refine wpAny_newFunctionEnv_cells S.kind (fun ⟨n, v⟩ hy => ?_) fun env he s1 x => ?_
  · rcases S.par n (List.of_mem_zip hy).1 with q | q
    · exact .inl q
    · exact .inr ⟨q, PySem.W.cellsFrom_some _ _ _ (.inl q)⟩
  subst he
  refine ⟨(e0.mod.nolimit.keeps fun b o e => (e0.bs b o e).1).keeps x.toInCall.keep, codeAny_func ?_⟩
  obtain ⟨t, ht, hq⟩ := hbody cdv A outer s H vs Q E (hr.deeper _) hg hsp
  refine wpAny_mono (ht.nox.run [] s1 (L2.start N vs) H _ (inv_start S hr.hd e0 (len _ _ _ _ hsp) r x) hq) (fun fl s' hs => ?_) fun e s' hs => hs
  cases fl with
  | ret u => obtain ⟨v, σ', H', J, rv, q⟩ := hs; exact ⟨v, H', J.os, J.bare, J.base, J.hok, rv, q⟩
  | next => obtain ⟨σ', H', J, q⟩ := hs; exact ⟨V.non, H', J.os, J.bare, J.base, J.hok, rfl, q⟩
  | brk => obtain ⟨_, _, _, q⟩ := hs; exact False.elim q
  | cont => obtain ⟨_, _, _, q⟩ := hs; exact False.elim q
end
structure CalG (P : Program) (w : World) (K : PySem.W.Frag) (mg : Str → Option Value) (base : Heap) (k : Nat) (x : Str) (sp : Sp) : Prop where
  ex : ∃ (f : Addr) (fd : FuncData) (ps : List Str), FnG P w K mg base CX0 k f fd ps sp ∧ mg x = some (.ref f) ∧ PySem.W.keepIn K (.ref f) = true ∧ Binds K fd ps []
section
variable {X : Cx} {k j : Nat} {x : Str} {sp : Sp} {p pos : Pos} {e : Expr} {es : List Expr} {t : TA}
theorem pe_cG (c : CalG X.prog X.w X.K X.mg X.base k x sp) (hr : Room j X.A) (hk : k ≤ j) (hgd : X.A.guards = some []) (hg : Gl X x) (ha : PA X (e :: es) t)
    (hdb : (x == ("__debug__" : Str)) = false := by decide) (he : starEach (e :: es) X.env = (false, eval e X.env) :: starEach es X.env := by rfl) (hpl : (backTo pos (starEach es X.env)).any (·.1) = false := by rfl) :
    PE X (.Call (.Name x p) (e :: es) [] pos) (tCall sp [] E0 t) := by
  obtain ⟨f, fd, ps, F, hm, kp, hb⟩ := c.ex
  refine ⟨fun pins s σ H Q I h => ?_⟩
  refine wpAny_Call_Name_kw (ld_glob I hg hm ?_ hdb)
  refine PySem.W.callWith_K (h₀ := X.base) I.ok.mod.kin kp (thn (ha.run pos pins s σ H _ I h) fun us s1 ⟨vs, H1, I1, r, q⟩ => ⟨I1.kIn, ?_⟩) he hpl
  have q : sp vs H1 Q E0 := by have z : sp (vs ++ []) H1 Q E0 := q; rwa [List.append_nil] at z
  have hl : us.length = ps.length := by rw [← r.length]; exact F.len _ _ _ _ q
  have b := hb s1 us I1.kIn (by rw [List.append_nil]; exact hl)
  rw [List.append_nil] at b
  refine wpAny_call (codeAny_mono (F.run X.A X.stack s1 H1 ⟨us, []⟩ us vs Q E0 (hr.mono hk) hgd I1.env0 b r q) fun r s' hq => ?_)
  cases r with
  | error e => exact hq.elim
  | ok fl =>
    cases fl with
    | ret u => exact I1.after hq
    | next => exact False.elim hq
    | brk => exact False.elim hq
    | cont => exact False.elim hq
end
section
variable {P : Program} {w : World} {K : PySem.W.Frag} {mg : Str → Option Value} {base : Heap} {ca : Str → Addr} {ks : List Kd}
theorem calMG {x : Str} {st : Stmt} {Nm ps : List Str} {k n : Nat} {rn : Bool} {ms : MS} (D : Dfn K mg x st ps) (S : FnScope Nm ps (defScope st)) (hk : ks.length = ps.length) (hN : Nm.length = ks.length + n)
    (hb : ∀ (f : Addr) (cdv : Value) (A : Around) (outer : List Env) (s : Shared) (H : Hp) (E : XK), Room k (A.deeper (envOfC x (defScope st) s.heap.objs.size f cdv)) → A.guards = some [] →
      ∃ t, PSs (cxOf CX0 P w K mg base Nm x (defScope st) f cdv A outer s H E).nox (defBody st) t ∧ ∀ H0 C B0, SS ⟨K, ca, H0, C, B0, E0⟩ t ms) :
    CalG P w K mg base (k + 1) x (spM K ca ks rn false (runM rn ks n ms)) := by
  obtain rfl : n = Nm.length - ks.length := by omega
  obtain ⟨f, fd, F, hm, b⟩ := D.ex
  refine ⟨f, fd, ps, Fun.okG F S (fun vs H Q E h => ?_) (fun cdv A outer s H vs Q E hr hg h => ?_), hm, F.kp, b⟩
  · obtain ⟨B0, ds, ha, _⟩ := h
    rw [ha.lv, hk]
  · obtain ⟨t, h1, h2⟩ := hb f cdv A outer s H E hr hg
    exact ⟨t, h1, body_ok (rs := false) (by omega) E0 h2 (fun z => by cases z) h⟩
end
/-! repr -/
section
variable {X : Cx}
def ReprD (K : PySem.W.Frag) : List V → Hp → VK → Prop := fun xs H Q => ∃ v d, xs = [v] ∧ Dp K H v d ∧ d.showable = true ∧ d.hasDict = false ∧ d.depth ≤ 50 ∧ d.shown.length ≤ sizeLine ∧ (∀ i, d = .int i → i.natAbs.log2 < 1920) ∧ Q (.str d.shown) H
theorem call_repr (hg : X.A.guards = some []) (hu : X.A.units + 64 < cLine) : CallR X (.builtin "repr") (ReprD X.K) := by
  intro pins s σ H xs us Q I r h
  obtain ⟨v, d, rfl, hd, hs, hn, hdep, hz, hi, q⟩ := h
  obtain ⟨u, rfl, ru⟩ := vals1 r
  obtain ⟨as, rd⟩ := Dp.reads I d v u hd ru
  cases hd with
  | non => cases ru; exact PySem.P.repr_of_none ⟨.str _, H, I.tok _, ⟨_, rfl⟩, q⟩
  | bl b => cases ru; exact PySem.P.repr_of_bool ⟨.str _, H, I.tok _, ⟨_, rfl⟩, q⟩
  | int i => obtain ⟨t, rfl⟩ := ru; exact PySem.P.repr_of_int (hi i rfl) ⟨.str _, H, I.tok _, ⟨_, rfl⟩, q⟩
  | str x => obtain ⟨t, rfl⟩ := ru; exact PySem.P.repr_of_str (h := ⟨.str _, H, I.tok _, ⟨_, rfl⟩, q⟩) (hsz := hz)
  | lst h1 h2 =>
    cases ru
    exact repr_of_reads' rd hs (PyData.noDict_hsm hn) hg (by omega) (fun _ _ e => e) (fun h' u tk hk => ⟨.str _, H, I.kept hk, ⟨_, rfl⟩, q⟩) hz
  | tup h1 h2 =>
    cases ru
    exact repr_of_reads' rd hs (PyData.noDict_hsm hn) hg (by omega) (fun _ _ e => e) (fun h' u tk hk => ⟨.str _, H, I.kept hk, ⟨_, rfl⟩, q⟩) hz
end
noncomputable def gRepr : List D → Option D
  | [d] => (toPy d).bind fun p => open Classical in if p.showable = true ∧ p.hasDict = false ∧ p.depth ≤ 50 ∧ p.shown.length ≤ sizeLine ∧ (∀ i, p = .int i → i.natAbs.log2 < 1920) then some (.str p.shown.cps.toList) else none
  | _ => none
theorem a_repr {K : PySem.W.Frag} {ca : Str → Addr} : GA K ca (ReprD K) gRepr := by
  intro H B vs ds z Q lv hb hg q
  unfold gRepr at hg
  split at hg
  · obtain ⟨v, rfl, h⟩ := bA1 hb
    obtain ⟨p, ep, hg⟩ := Option.bind_eq_some_iff.mp hg
    split at hg
    · rename_i hc
      cases hg
      obtain ⟨h1, h2, h3, h4, h5⟩ := hc
      exact ⟨v, p, rfl, Rep.dp h.rep ep, h1, h2, h3, h4, h5, q _ H SameH.rfl (.str _)⟩
    · cases hg
  · cases hg
section
variable {X : Cx} {k j : Nat} {C : Addr} {m : Str} {sp : Sp} {p pos apos : Pos} {e o : Expr} {es : List Expr} {t : TA} {ta : TE} {E : L2.St → XK}
/-- o.m(e, ..) in a try, by the state at the call -/
theorem pe_mtXS {pl : Sem Bool} (c : MetX X.prog X.w X.K X.mg X.base k C m sp) (hr : Room j X.A) (hk : k ≤ j) (he : PE X o ta) (hx : ∀ σ, PassesAt (L2.CX X.prog X.w) X σ (E σ)) (ha : PA X (e :: es) t)
    (hst : starEach (e :: es) X.env = (false, eval e X.env) :: starEach es X.env := by rfl) (hpl : (backTo pos (starEach es X.env)).any (·.1) = false := by rfl)
    (ht : eval (.Call (.Attribute o m apos) (e :: es) [] pos) X.env = (do
      let ov ← eval o X.env; standAt apos.atName; let (f, first) ← holding [ov] (getMethod ov m pl); callWith pos f first (backTo pos (starEach (e :: es) X.env)) (backToKw pos (keywordEach [] X.env))) := by rfl) :
    PE X (.Call (.Attribute o m apos) (e :: es) [] pos) (fun σ H Q => tMeth C m sp [] (E σ) ta t σ H Q) := by
  obtain ⟨f, fd, ps, hc, hm, F, b⟩ := c.ex
  refine ⟨fun pins s σ H Q I h => ?_⟩
  refine PySem.W.methodCall_KW (pl := pl) (thn (he.run pins s σ H _ I h) fun u s1 ⟨x, H1, I1, rx, a, dx, fs, ex, ea, l, q⟩ => ?_) ht
  subst ex
  obtain rfl : u = Value.ref a := rx
  refine getmeth_ok I1 ea hc hm l ?_
  refine PySem.W.callWith_K (first := [.ref a]) (h₀ := X.base) I.ok.mod.kin hm.kp (thn (ha.run pos pins s1 σ H1 _ I1 q) fun us s2 ⟨vs, H2, I2, r, q2⟩ => ⟨I2.kIn, ?_⟩) hst hpl
  have q2 : sp (V.ref a :: (vs ++ [])) H2 Q (E σ) := q2
  rw [List.append_nil] at q2
  exact run_fnS (us := .ref a :: us) (vs := .ref a :: vs) F (hr.mono hk) b (hx σ) I2 (.cons rfl r) q2
end
/-- the suite goes on from the state before -/
def sTryS (mb : MS) (mh : Str → List (Str × D) → MS) : MS := fun ρ => if ρ.any ownS = false then match mb ρ with
    | .er c fs => mh c fs ρ
    | o => o
  else .no
def HsOk (N : Cn) (cv : Value) (i : Nat) (ts : Addr → Value → Option Addr → TS) (Wout : WX) (mh : Str → List (Str × D) → MS) : Prop :=
  ∀ (c : Str) (fs : List (Str × D)) (dx : Addr) (fv : List (Str × V)) (H' : Hp) (ρ : Env') (σ : L2.St) (W : Ends), Iv N N.B0 ρ σ H' → ρ.any ownS = false → H' dx = some (.xd fv) → fv.map (·.1) = fs.map (·.1) → RepA N.K N.ca (mask H' N.B0) (fv.map (·.2)) (fs.map (·.2)) →
    PostS N N.B0 H' W (mh c fs ρ) → wAs N.K cv i ts Wout W (.ref (N.ca c)) (some dx) σ H'
theorem ss_tryS {N : Cn} {tb : XK → TS} {mb : MS} {cv : Value} {i : Nat} {ts : Addr → Value → Option Addr → TS} {Wout : WX} {mh : Str → List (Str × D) → MS}
    (hb : ∀ EE H0 C B0, SS ⟨N.K, N.ca, H0, C, B0, EE⟩ (tb EE) mb) (hh : HsOk N cv i ts Wout mh) :
    SS N (fun D σ H => tb (fun cls d H2 => wAs N.K cv i ts Wout D cls d σ H2) D σ H) (sTryS mb mh) := by
  intro B ρ σ H W I hp
  unfold sTryS at hp
  by_cases hρ : ρ.any ownS = false
  · rw [if_pos hρ] at hp
    refine hb _ _ _ _ B ρ σ H W (I.toTry hρ _) ?_
    cases e : mb ρ with
    | no => rw [e] at hp; exact hp
    | bk ρ' => rw [e] at hp; exact fun σ' B' H' J s => hp σ' B' H' (I.ofTry hρ J) s
    | ct ρ' => rw [e] at hp; exact fun σ' B' H' J s => hp σ' B' H' (I.ofTry hρ J) s
    | nx ρ' => rw [e] at hp; exact fun σ' B' H' J s => hp σ' B' H' (I.ofTry hρ J) s
    | rt nw d ρ' =>
      rw [e] at hp
      cases nw with
      | false => exact fun v σ' B' H' J s r => hp v σ' B' H' (I.ofTry hρ J) s r
      | true =>
        refine fun v σ' B' H' J s r => hp v σ' B' H' (I.ofTry hρ J) s ?_
        obtain ⟨p, o, h1, h2, h3⟩ := r
        exact ⟨p, o, h1, I.no0 h2, h3⟩
    | er c fs =>
      rw [e] at hp
      have hp : PostS N B H W (mh c fs ρ) := hp
      show XOk _ c fs
      intro dx H' fv h0 hfr hx' hk hr
      have sH : SameH H H' := fun b o e => hfr b o (fun _ z => nomatch z) e
      have I2 := (I.grow sH).least hρ
      exact hh c fs dx fv H' ρ σ W I2 hρ hx' hk hr (PostS.from ((mask_up sH).tr (mask_sub fun x hx => I.bb x hx)) hp)
  · rw [if_neg hρ] at hp; exact hp.elim
theorem call_reprK {X : Cx} {K : PySem.W.Frag} (h : X.K = K) (hg : X.A.guards = some []) (hu : X.A.units + 64 < cLine) : CallR X (.builtin "repr") (ReprD K) := h ▸ call_repr hg hu
theorem Iv.setE {N : Cn} {B : Addr → Bool} {ρ : Env'} {σ : L2.St} {H : Hp} (I : Iv N B ρ σ H) {i : Nat} (e : ρ[i]? = some .e) (w : Option V) : Iv N B ρ (σ.set i w) H where
  fr := I.fr
  cb := I.cb
  ci := I.ci
  ck := I.ck
  bb := I.bb
  bh := I.bh
  tr := I.tr
  ln := by rw [List.length_set]; exact I.ln
  sl := fun j x ex => by
    by_cases q : i = j
    · subst q; rw [e] at ex; cases ex; trivial
    · rw [List.getElem?_set_ne q]; exact I.sl j x ex
  ds := fun j k x y a hjk e1 e2 s1 s2 => by
    have n1 : i ≠ j := fun z => by subst z; rw [e] at e1; cases e1
    have n2 : i ≠ k := fun z => by subst z; rw [e] at e2; cases e2
    rw [List.getElem?_set_ne n1] at s1
    rw [List.getElem?_set_ne n2] at s2
    exact I.ds j k x y a hjk e1 e2 s1 s2
theorem Iv.getV {N : Cn} {B : Addr → Bool} {ρ : Env'} {σ : L2.St} {H : Hp} (I : Iv N B ρ σ H) {i : Nat} {d : D} (e : ρ[i]? = some (.v d)) : ∃ v, σ[i]? = some (some v) ∧ Rep N.K N.ca (mask H B) v d := by
  obtain ⟨v, h1, h2⟩ := I.sl i _ e
  refine ⟨v, ?_, h2⟩
  cases q : σ[i]? with
  | none => rw [q] at h1; cases h1
  | some w => rw [q] at h1; have h1 : w = some v := h1; rw [h1]
theorem gRepr_rep {K : PySem.W.Frag} {ca : Str → Addr} {d s : D} (h : gRepr [d] = some s) : ∃ x : Str, ∀ {H : Hp} {v : V} (Q : VK), Rep K ca H v d → Q (.str x) H → ReprD K [v] H Q := by
  unfold gRepr at h
  obtain ⟨p, ep, h⟩ := Option.bind_eq_some_iff.mp h
  split at h
  · rename_i hc
    obtain ⟨h1, h2, h3, h4, h5⟩ := hc
    exact ⟨p.shown, fun Q r q => ⟨_, p, rfl, Rep.dp r ep, h1, h2, h3, h4, h5, q⟩⟩
  · cases h
theorem ss_tryE {N : Cn} {t : TS} {tb : XK → TS} {mb : MS} {cv : Value} {i : Nat} {ts : Addr → Value → Option Addr → TS} {Wout : WX} {mh : Str → List (Str × D) → MS}
    (hb : ∀ EE H0 C B0, SS ⟨N.K, N.ca, H0, C, B0, EE⟩ (tb EE) mb) (hh : HsOk N cv i ts Wout mh) (ht : ∀ D σ H, t D σ H = tb (fun cls d H2 => wAs N.K cv i ts Wout D cls d σ H2) D σ H) : SS N t (sTryS mb mh) := by
  have : t = fun D σ H => tb (fun cls d H2 => wAs N.K cv i ts Wout D cls d σ H2) D σ H := by funext D σ H; exact ht D σ H
  rw [this]
  exact ss_tryS hb hh
/-! the law itself -/
section
variable {P : Program} {w : World} {K : PySem.W.Frag} {mg : Str → Option Value} {base : Heap} {ca : Str → Addr} {ks : List Kd}
theorem fnMG {x : Str} {st : Stmt} {f : Addr} {fd : FuncData} {Nm ps : List Str} {k n : Nat} {rn : Bool} {ms : MS} (F : Fun K x x st f fd) (S : FnScope Nm ps (defScope st)) (hk : ks.length = ps.length) (hN : Nm.length = ks.length + n)
    (hb : ∀ (cdv : Value) (A : Around) (outer : List Env) (s : Shared) (H : Hp) (E : XK), Room k (A.deeper (envOfC x (defScope st) s.heap.objs.size f cdv)) → A.guards = some [] →
      ∃ t, PSs (cxOf CX0 P w K mg base Nm x (defScope st) f cdv A outer s H E).nox (defBody st) t ∧ ∀ H0 C B0, SS ⟨K, ca, H0, C, B0, E0⟩ t ms) :
    FnG P w K mg base CX0 (k + 1) f fd ps (spM K ca ks rn false (runM rn ks n ms)) := by
  obtain rfl : n = Nm.length - ks.length := by omega
  refine Fun.okG F S (fun vs H Q E h => ?_) (fun cdv A outer s H vs Q E hr hg h => ?_)
  · obtain ⟨B0, ds, ha, _⟩ := h
    rw [ha.lv, hk]
  · obtain ⟨t, h1, h2⟩ := hb cdv A outer s H E hr hg
    exact ⟨t, h1, body_ok (rs := false) (by omega) E0 h2 (fun z => by cases z) h⟩
theorem fnM {x : Str} {st : Stmt} {f : Addr} {fd : FuncData} {Nm ps : List Str} {k n : Nat} {rn : Bool} {ms : MS} (F : Fun K x x st f fd) (S : FnScope Nm ps (defScope st)) (hk : ks.length = ps.length) (hN : Nm.length = ks.length + n)
    (hb : ∀ (cdv : Value) (A : Around) (outer : List Env) (s : Shared) (H : Hp) (E : XK), Room k (A.deeper (envOfC x (defScope st) s.heap.objs.size f cdv)) →
      ∃ t, PSs (cxOf CX0 P w K mg base Nm x (defScope st) f cdv A outer s H E).nox (defBody st) t ∧ ∀ H0 C B0, SS ⟨K, ca, H0, C, B0, E0⟩ t ms) :
    FnOk P w K mg base CX0 (k + 1) f fd ps (spM K ca ks rn false (runM rn ks n ms)) := by
  obtain rfl : n = Nm.length - ks.length := by omega
  refine Fun.ok F S (fun vs H Q E h => ?_) (fun cdv A outer s H vs Q E hr h => ?_)
  · obtain ⟨B0, ds, ha, _⟩ := h
    rw [ha.lv, hk]
  · obtain ⟨t, h1, h2⟩ := hb cdv A outer s H E hr
    exact ⟨t, h1, body_ok (rs := false) (by omega) E0 h2 (fun z => by cases z) h⟩
end

theorem evset : type_of% (And.intro (And.intro (And.intro (And.intro (And.intro (And.intro (And.intro (And.intro (@bind_ok) (@bind_no)) (And.intro (@bind_er) (@of_some))) (And.intro (And.intro (@of_none) (@seq_nx)) (And.intro (@seq_no) (And.intro (@seq_rt) (@seq_bk))))) (And.intro (And.intro (And.intro (@seq_ct) (@seq_er)) (And.intro (@mV_ap) (And.intro (@mNw_ap) (@mC_ap)))) (And.intro (And.intro (@mL_ap) (@mLk_v)) (And.intro (@mLk_o) (And.intro (@mTake_ap) (@mTk_o)))))) (And.intro (And.intro (And.intro (And.intro (@mS_ap) (@mSk_s)) (And.intro (@sd_v) (And.intro (@sd_o) (@sd_i)))) (And.intro (And.intro (@sd_b) (@sd_e)) (And.intro (@sm_o) (And.intro (@sm_i) (@sp_o))))) (And.intro (And.intro (And.intro (@sp_i) (@plD_v)) (And.intro (@plD_n) (And.intro (@plD_s) (@slotMut_ap)))) (And.intro (And.intro (@rdA_nil) (@rdA_cons)) (And.intro (@vals_nil) (And.intro (@vals_v) (@m1_ap))))))) (And.intro (And.intro (And.intro (And.intro (And.intro (@m2_ap) (@m3_ap)) (And.intro (@mA_ap) (And.intro (@mNil_ap) (@mCons_ap)))) (And.intro (And.intro (@mTup_ap) (@mLst_ap)) (And.intro (@mNoPart_ap) (And.intro (@mPart_ap) (@dInt_i))))) (And.intro (And.intro (And.intro (@dBl_b) (@mNot_ap)) (And.intro (@mAndV_ap) (And.intro (@mOrV_ap) (@mIfE_ap)))) (And.intro (And.intro (@tB_ap) (@tAnd_ap)) (And.intro (@tOr_ap) (And.intro (@tNot_ap) (@mYes_ap)))))) (And.intro (And.intro (And.intro (And.intro (@sNx_ap) (@sBk_ap)) (And.intro (@sCt_ap) (And.intro (@sSeq_ap) (@sDrop_ap)))) (And.intro (And.intro (@sRet_ap) (@sRetN_ap)) (And.intro (@sRet0_ap) (And.intro (@sIf_ap) (@putSl_ap))))) (And.intro (And.intro (And.intro (@putSK_e) (@putSK_v)) (And.intro (@putSK_o) (And.intro (@putSK_b) (@sSet_ap)))) (And.intro (And.intro (@sSetN_ap) (@sAsg_ap)) (And.intro (@asgK_s) (And.intro (@gNm_ap) (@gNk_e)))))))) (And.intro (And.intro (And.intro (And.intro (And.intro (And.intro (@gNk_v) (@gNk_o)) (And.intro (@gNo_ap) (@gCo_ap))) (And.intro (And.intro (@gTp_t) (@gTp_q)) (And.intro (@sPar2_ap) (And.intro (@sPar3_ap) (@par2K_2))))) (And.intro (And.intro (And.intro (@par3K_3) (@plSl_v)) (And.intro (@plSl_n) (And.intro (@sSub_ap) (@mMut_ap)))) (And.intro (And.intro (@mMutV_ap) (@isLst_l)) (And.intro (@isStr_s) (And.intro (@mBm_ap) (@mCall_ap)))))) (And.intro (And.intro (And.intro (And.intro (@callK_ok) (@argsD_nil)) (And.intro (@argsD_cons) (And.intro (@argD_v) (@argD_n)))) (And.intro (And.intro (@argD_i) (@argD_b)) (And.intro (@argD_bs) (And.intro (@mIt_ap) (@mItA_ap))))) (And.intro (And.intro (And.intro (@sFor_ap) (@mLc_ap)) (And.intro (@runM_ap) (And.intro (@runK_nx) (@runK_rt)))) (And.intro (And.intro (@runK_rn) (@gII_ok)) (And.intro (@gIxL_l) (And.intro (@gIxL_q) (@gIxT_t))))))) (And.intro (And.intro (And.intro (And.intro (And.intro (@gIxT_q) (@gInt_i)) (And.intro (@gAbs_i) (And.intro (@gMax_i) (@gMin_i)))) (And.intro (And.intro (@gLen_l) (@gLen_q)) (And.intro (@gLen_t) (And.intro (@gLen_p) (@gSetL_l))))) (And.intro (And.intro (And.intro (@gCatS_s) (@gCatL_l)) (And.intro (@gCatT_t) (And.intro (@gAppend_l) (@gExtend_l)))) (And.intro (And.intro (@gPopAt_l) (@gLstS_s)) (And.intro (@lstOf_l) (And.intro (@lstOf_q) (@tupOf_t)))))) (And.intro (And.intro (And.intro (And.intro (@tupOf_q) (@ini_v)) (And.intro (@ini_i) (And.intro (@ini_b) (@ini_0)))) (And.intro (And.intro (@outs_0) (@outs_c)) (And.intro (@slotD_v) (And.intro (@slotD_o) (@slotD_i))))) (And.intro (And.intro (And.intro (@slotD_b) (@slotD_e)) (And.intro (@atI0) (And.intro (@atI1) (@ixN0)))) (And.intro (And.intro (@ixN1) (@gMod_ok)) (And.intro (@gMul_r) (And.intro (@gDivW_ok) (@wd13))))))))) (And.intro (And.intro (And.intro (And.intro (And.intro (And.intro (And.intro (@wd32) (@List.getElem?_cons_zero.{0})) (And.intro (@List.getElem?_cons_succ.{0}) (@List.getElem?_nil.{0}))) (And.intro (And.intro (@List.set_cons_zero.{0}) (@List.set_cons_succ.{0})) (And.intro (@Option.bind_some.{0,0}) (And.intro (@Option.map_some.{0,0}) (@Option.bind_none.{0,0}))))) (And.intro (And.intro (And.intro (@Option.map_none.{0,0}) (@List.replicate_succ.{0})) (And.intro (@List.replicate_zero.{0}) (And.intro (@List.length_cons.{0}) (@List.length_nil.{0})))) (And.intro (And.intro (@out_ok) (@out_no)) (And.intro (@out_er) (And.intro (@decide_true) (@decide_false)))))) (And.intro (And.intro (And.intro (And.intro (@Bool.false_eq_true) (@Nat.zero_add)) (And.intro (@Bool.not_true) (And.intro (@Bool.not_false) (@Bool.and_true)))) (And.intro (And.intro (@Bool.true_and) (@Bool.or_true)) (And.intro (@Bool.true_or) (And.intro (@Bool.or_false) (@Bool.false_or))))) (And.intro (And.intro (And.intro (@and_true) (@true_and)) (And.intro (@and_self) (And.intro (@not_true) (@not_false_iff)))) (And.intro (And.intro (@bind_ite) (@out_ite)) (And.intro (@seq_ite) (And.intro (@of_ite) (@runK_ite))))))) (And.intro (And.intro (And.intro (And.intro (And.intro (@runK_er) (@aft_nx)) (And.intro (@aft_ct) (And.intro (@aft_bk) (@aft_no)))) (And.intro (And.intro (@aft_rt) (@aft_er)) (And.intro (@aft_ite) (And.intro (@trnF_ap) (@trnW_ap))))) (And.intro (And.intro (And.intro (@forL_nil) (@mCallX_ap)) (And.intro (@callKX_ok) (And.intro (@callKX_er) (@callKX_ite)))) (And.intro (And.intro (@callK_ite) (@mMethK_ap)) (And.intro (@mMeth_ap) (And.intro (@noEr_ap) (@noErK_ok)))))) (And.intro (And.intro (And.intro (And.intro (@mMake_ap) (@mMakeK_ok)) (And.intro (@mMakeK_er) (And.intro (@isNwP_v) (@isNwP_s)))) (And.intro (And.intro (@gFld_ap) (@sFldS_ap)) (And.intro (@sRaise_ap) (And.intro (@mOIn_ap) (@mDNewK_ap))))) (And.intro (And.intro (And.intro (@mDNewT_ap) (@gDGet_k)) (And.intro (@keyD_s) (And.intro (@keyD_i) (@gDHas_k)))) (And.intro (And.intro (@gDIn_ap) (@gDPut_k)) (And.intro (@sForK_ap) (And.intro (@gKeys_k) (@noE_nx)))))))) (And.intro (And.intro (And.intro (And.intro (And.intro (And.intro (@noE_rt) (@kFld_ap)) (And.intro (@kVar_ap) (And.intro (@kVK_v) (@gSigns_s)))) (And.intro (And.intro (@gInSign_s) (@gIxS_s)) (And.intro (@gLenS_s) (And.intro (@sNever_ap) (@putIo_0))))) (And.intro (And.intro (And.intro (@putIo_v) (@putIo_b)) (And.intro (@putIo_n) (And.intro (@putIo_i) (@setP_s)))) (And.intro (And.intro (@okIo_t) (@okR_0)) (And.intro (@okR_v) (And.intro (@okR_i) (@okR_in)))))) (And.intro (And.intro (And.intro (And.intro (@okR_b) (@okR_bv)) (And.intro (@List.contains_nil.{0}) (And.intro (@List.contains_cons.{0}) (@isI_v)))) (And.intro (And.intro (@isI_o) (@isI_b)) (And.intro (@isI_e) (And.intro (@List.lookup_cons_self.{0,0}) (@gSlS_s))))) (And.intro (And.intro (And.intro (@gSlT_t) (@mChain_ap)) (And.intro (@putFD_eq) (And.intro (@putFD_nil) (@tyD_s)))) (And.intro (And.intro (@gIsT_ap) (@gEqS_ss)) (And.intro (@gNeg_i) (And.intro (@List.zip_cons_cons.{0,0}) (@List.zip_nil_left.{0,0}))))))) (And.intro (And.intro (And.intro (And.intro (And.intro (@List.reverse_cons.{0}) (@List.reverse_nil.{0})) (And.intro (@List.nil_append.{0}) (And.intro (@List.singleton_append.{0}) (@noErS_ok)))) (And.intro (And.intro (@noErS_ite) (@wipeM_nil)) (And.intro (@wipeM_cons) (And.intro (@wipK_v) (@wipK_e))))) (And.intro (And.intro (And.intro (@wipK_o) (@trnL_ap)) (And.intro (@lcL_nil) (And.intro (@trnD_ap) (@dcL_nil)))) (And.intro (And.intro (@mDc_ap) (@gSortD_0)) (And.intro (@gTpl_l) (And.intro (@gTpl_t) (@gLst_l)))))) (And.intro (And.intro (And.intro (And.intro (@gLst_t) (@gIsN_ap)) (And.intro (@isNon_n) (And.intro (@isNon_s) (@isNon_t)))) (And.intro (And.intro (@isNon_l) (@Int.cast_ofNat_Int)) (And.intro (@Int.natCast_zero) (And.intro (@Int.natCast_one) (@runK_no))))) (And.intro (And.intro (And.intro (@sParL_ap) (@putPs_nil)) (And.intro (@putPs_cons) (And.intro (@sAsgH_ap) (@hName_ap)))) (And.intro (And.intro (@hSub_ap) (@hNil_ap)) (And.intro (@hCo_ap) (And.intro (@hTp_t) (@hTp_q)))))))))) := And.intro (And.intro (And.intro (And.intro (And.intro (And.intro (And.intro (And.intro (@bind_ok) (@bind_no)) (And.intro (@bind_er) (@of_some))) (And.intro (And.intro (@of_none) (@seq_nx)) (And.intro (@seq_no) (And.intro (@seq_rt) (@seq_bk))))) (And.intro (And.intro (And.intro (@seq_ct) (@seq_er)) (And.intro (@mV_ap) (And.intro (@mNw_ap) (@mC_ap)))) (And.intro (And.intro (@mL_ap) (@mLk_v)) (And.intro (@mLk_o) (And.intro (@mTake_ap) (@mTk_o)))))) (And.intro (And.intro (And.intro (And.intro (@mS_ap) (@mSk_s)) (And.intro (@sd_v) (And.intro (@sd_o) (@sd_i)))) (And.intro (And.intro (@sd_b) (@sd_e)) (And.intro (@sm_o) (And.intro (@sm_i) (@sp_o))))) (And.intro (And.intro (And.intro (@sp_i) (@plD_v)) (And.intro (@plD_n) (And.intro (@plD_s) (@slotMut_ap)))) (And.intro (And.intro (@rdA_nil) (@rdA_cons)) (And.intro (@vals_nil) (And.intro (@vals_v) (@m1_ap))))))) (And.intro (And.intro (And.intro (And.intro (And.intro (@m2_ap) (@m3_ap)) (And.intro (@mA_ap) (And.intro (@mNil_ap) (@mCons_ap)))) (And.intro (And.intro (@mTup_ap) (@mLst_ap)) (And.intro (@mNoPart_ap) (And.intro (@mPart_ap) (@dInt_i))))) (And.intro (And.intro (And.intro (@dBl_b) (@mNot_ap)) (And.intro (@mAndV_ap) (And.intro (@mOrV_ap) (@mIfE_ap)))) (And.intro (And.intro (@tB_ap) (@tAnd_ap)) (And.intro (@tOr_ap) (And.intro (@tNot_ap) (@mYes_ap)))))) (And.intro (And.intro (And.intro (And.intro (@sNx_ap) (@sBk_ap)) (And.intro (@sCt_ap) (And.intro (@sSeq_ap) (@sDrop_ap)))) (And.intro (And.intro (@sRet_ap) (@sRetN_ap)) (And.intro (@sRet0_ap) (And.intro (@sIf_ap) (@putSl_ap))))) (And.intro (And.intro (And.intro (@putSK_e) (@putSK_v)) (And.intro (@putSK_o) (And.intro (@putSK_b) (@sSet_ap)))) (And.intro (And.intro (@sSetN_ap) (@sAsg_ap)) (And.intro (@asgK_s) (And.intro (@gNm_ap) (@gNk_e)))))))) (And.intro (And.intro (And.intro (And.intro (And.intro (And.intro (@gNk_v) (@gNk_o)) (And.intro (@gNo_ap) (@gCo_ap))) (And.intro (And.intro (@gTp_t) (@gTp_q)) (And.intro (@sPar2_ap) (And.intro (@sPar3_ap) (@par2K_2))))) (And.intro (And.intro (And.intro (@par3K_3) (@plSl_v)) (And.intro (@plSl_n) (And.intro (@sSub_ap) (@mMut_ap)))) (And.intro (And.intro (@mMutV_ap) (@isLst_l)) (And.intro (@isStr_s) (And.intro (@mBm_ap) (@mCall_ap)))))) (And.intro (And.intro (And.intro (And.intro (@callK_ok) (@argsD_nil)) (And.intro (@argsD_cons) (And.intro (@argD_v) (@argD_n)))) (And.intro (And.intro (@argD_i) (@argD_b)) (And.intro (@argD_bs) (And.intro (@mIt_ap) (@mItA_ap))))) (And.intro (And.intro (And.intro (@sFor_ap) (@mLc_ap)) (And.intro (@runM_ap) (And.intro (@runK_nx) (@runK_rt)))) (And.intro (And.intro (@runK_rn) (@gII_ok)) (And.intro (@gIxL_l) (And.intro (@gIxL_q) (@gIxT_t))))))) (And.intro (And.intro (And.intro (And.intro (And.intro (@gIxT_q) (@gInt_i)) (And.intro (@gAbs_i) (And.intro (@gMax_i) (@gMin_i)))) (And.intro (And.intro (@gLen_l) (@gLen_q)) (And.intro (@gLen_t) (And.intro (@gLen_p) (@gSetL_l))))) (And.intro (And.intro (And.intro (@gCatS_s) (@gCatL_l)) (And.intro (@gCatT_t) (And.intro (@gAppend_l) (@gExtend_l)))) (And.intro (And.intro (@gPopAt_l) (@gLstS_s)) (And.intro (@lstOf_l) (And.intro (@lstOf_q) (@tupOf_t)))))) (And.intro (And.intro (And.intro (And.intro (@tupOf_q) (@ini_v)) (And.intro (@ini_i) (And.intro (@ini_b) (@ini_0)))) (And.intro (And.intro (@outs_0) (@outs_c)) (And.intro (@slotD_v) (And.intro (@slotD_o) (@slotD_i))))) (And.intro (And.intro (And.intro (@slotD_b) (@slotD_e)) (And.intro (@atI0) (And.intro (@atI1) (@ixN0)))) (And.intro (And.intro (@ixN1) (@gMod_ok)) (And.intro (@gMul_r) (And.intro (@gDivW_ok) (@wd13))))))))) (And.intro (And.intro (And.intro (And.intro (And.intro (And.intro (And.intro (@wd32) (@List.getElem?_cons_zero.{0})) (And.intro (@List.getElem?_cons_succ.{0}) (@List.getElem?_nil.{0}))) (And.intro (And.intro (@List.set_cons_zero.{0}) (@List.set_cons_succ.{0})) (And.intro (@Option.bind_some.{0,0}) (And.intro (@Option.map_some.{0,0}) (@Option.bind_none.{0,0}))))) (And.intro (And.intro (And.intro (@Option.map_none.{0,0}) (@List.replicate_succ.{0})) (And.intro (@List.replicate_zero.{0}) (And.intro (@List.length_cons.{0}) (@List.length_nil.{0})))) (And.intro (And.intro (@out_ok) (@out_no)) (And.intro (@out_er) (And.intro (@decide_true) (@decide_false)))))) (And.intro (And.intro (And.intro (And.intro (@Bool.false_eq_true) (@Nat.zero_add)) (And.intro (@Bool.not_true) (And.intro (@Bool.not_false) (@Bool.and_true)))) (And.intro (And.intro (@Bool.true_and) (@Bool.or_true)) (And.intro (@Bool.true_or) (And.intro (@Bool.or_false) (@Bool.false_or))))) (And.intro (And.intro (And.intro (@and_true) (@true_and)) (And.intro (@and_self) (And.intro (@not_true) (@not_false_iff)))) (And.intro (And.intro (@bind_ite) (@out_ite)) (And.intro (@seq_ite) (And.intro (@of_ite) (@runK_ite))))))) (And.intro (And.intro (And.intro (And.intro (And.intro (@runK_er) (@aft_nx)) (And.intro (@aft_ct) (And.intro (@aft_bk) (@aft_no)))) (And.intro (And.intro (@aft_rt) (@aft_er)) (And.intro (@aft_ite) (And.intro (@trnF_ap) (@trnW_ap))))) (And.intro (And.intro (And.intro (@forL_nil) (@mCallX_ap)) (And.intro (@callKX_ok) (And.intro (@callKX_er) (@callKX_ite)))) (And.intro (And.intro (@callK_ite) (@mMethK_ap)) (And.intro (@mMeth_ap) (And.intro (@noEr_ap) (@noErK_ok)))))) (And.intro (And.intro (And.intro (And.intro (@mMake_ap) (@mMakeK_ok)) (And.intro (@mMakeK_er) (And.intro (@isNwP_v) (@isNwP_s)))) (And.intro (And.intro (@gFld_ap) (@sFldS_ap)) (And.intro (@sRaise_ap) (And.intro (@mOIn_ap) (@mDNewK_ap))))) (And.intro (And.intro (And.intro (@mDNewT_ap) (@gDGet_k)) (And.intro (@keyD_s) (And.intro (@keyD_i) (@gDHas_k)))) (And.intro (And.intro (@gDIn_ap) (@gDPut_k)) (And.intro (@sForK_ap) (And.intro (@gKeys_k) (@noE_nx)))))))) (And.intro (And.intro (And.intro (And.intro (And.intro (And.intro (@noE_rt) (@kFld_ap)) (And.intro (@kVar_ap) (And.intro (@kVK_v) (@gSigns_s)))) (And.intro (And.intro (@gInSign_s) (@gIxS_s)) (And.intro (@gLenS_s) (And.intro (@sNever_ap) (@putIo_0))))) (And.intro (And.intro (And.intro (@putIo_v) (@putIo_b)) (And.intro (@putIo_n) (And.intro (@putIo_i) (@setP_s)))) (And.intro (And.intro (@okIo_t) (@okR_0)) (And.intro (@okR_v) (And.intro (@okR_i) (@okR_in)))))) (And.intro (And.intro (And.intro (And.intro (@okR_b) (@okR_bv)) (And.intro (@List.contains_nil.{0}) (And.intro (@List.contains_cons.{0}) (@isI_v)))) (And.intro (And.intro (@isI_o) (@isI_b)) (And.intro (@isI_e) (And.intro (@List.lookup_cons_self.{0,0}) (@gSlS_s))))) (And.intro (And.intro (And.intro (@gSlT_t) (@mChain_ap)) (And.intro (@putFD_eq) (And.intro (@putFD_nil) (@tyD_s)))) (And.intro (And.intro (@gIsT_ap) (@gEqS_ss)) (And.intro (@gNeg_i) (And.intro (@List.zip_cons_cons.{0,0}) (@List.zip_nil_left.{0,0}))))))) (And.intro (And.intro (And.intro (And.intro (And.intro (@List.reverse_cons.{0}) (@List.reverse_nil.{0})) (And.intro (@List.nil_append.{0}) (And.intro (@List.singleton_append.{0}) (@noErS_ok)))) (And.intro (And.intro (@noErS_ite) (@wipeM_nil)) (And.intro (@wipeM_cons) (And.intro (@wipK_v) (@wipK_e))))) (And.intro (And.intro (And.intro (@wipK_o) (@trnL_ap)) (And.intro (@lcL_nil) (And.intro (@trnD_ap) (@dcL_nil)))) (And.intro (And.intro (@mDc_ap) (@gSortD_0)) (And.intro (@gTpl_l) (And.intro (@gTpl_t) (@gLst_l)))))) (And.intro (And.intro (And.intro (And.intro (@gLst_t) (@gIsN_ap)) (And.intro (@isNon_n) (And.intro (@isNon_s) (@isNon_t)))) (And.intro (And.intro (@isNon_l) (@Int.cast_ofNat_Int)) (And.intro (@Int.natCast_zero) (And.intro (@Int.natCast_one) (@runK_no))))) (And.intro (And.intro (And.intro (@sParL_ap) (@putPs_nil)) (And.intro (@putPs_cons) (And.intro (@sAsgH_ap) (@hName_ap)))) (And.intro (And.intro (@hSub_ap) (@hNil_ap)) (And.intro (@hCo_ap) (And.intro (@hTp_t) (@hTp_q)))))))))

/-! ### M36. sorted(set(texts)) -/
section
open PySem.Froz
section
variable {P : Program} {w : World} {A : Around} {E : Value → Shared → Prop} {s : Shared}
/-- the payload of a set that holds the texts l, no order told -/
structure Tset (P : Program) (w : World) (D : SD) (l : List Str) : Prop where
  ok : TxOk P w D l
  nd : l.Nodup
  ris : Ris D.2.2.place.toList
  led : w.params.followText "set-order" = true ∨ D.2.2.led = true
theorem tset_tail {ep : Nat} {es : Array (Int × Value)} {t : SetTable} {b : Bool} (r : Ris t.place.toList) (hl : w.params.followText "set-order" = true ∨ t.led = true) :
    Ris (tailTx ep es t b).2.2.place.toList ∧ (w.params.followText "set-order" = true ∨ (tailTx ep es t b).2.2.led = true) := by
  unfold tailTx
  split
  · exact ⟨relayAll_ris t es _, hl.imp id fun z => (relayAll_led t es _).trans z⟩
  · exact ⟨r, hl⟩
theorem Tset.add {D : SD} {l : List Str} {k : Str} (F : Tset P w D l) (hk : k ∉ l) (u : Tok) : Tset P w (addTx (hashStr w k) (.str k u) D) (k :: l) := by
  have r := layNew_ris D.2.2 D.1 (hashStr w k) (.str k u) F.ris
  have e := layNew_led D.2.2 D.1 (hashStr w k) (.str k u)
  have z := fun (t : SetTable) (r : Ris t.place.toList) (e : t.led = D.2.2.led) (es : Array (Int × Value)) (b : Bool) => tset_tail (w := w) (ep := D.2.1) (es := es) (b := b) r (F.led.imp id fun z => e.trans z)
  refine ⟨add_ok u F.ok, List.nodup_cons.mpr ⟨hk, F.nd⟩, ?_, ?_⟩
  · unfold addTx
    split
    · exact (z { (layNew D.2.2 D.1 (hashStr w k) (.str k u)).2.1 with plain := false } r e _ _).1
    · exact (z _ r e _ _).1
  · unfold addTx
    split
    · exact (z { (layNew D.2.2 D.1 (hashStr w k) (.str k u)).2.1 with plain := false } r e _ _).2
    · exact (z _ r e _ _).2
/-- a text that is there already -/
theorem add_again {a : Addr} {T : String} {D : SD} {l : List Str} {k : Str} {u : Tok} {Q : Bool → Shared → Prop} (ho : s.heap.get? a = some (sObj T D)) (F : Tset P w D l) (hk : k ∈ l) (hb : l.length < scanBound)
    (h : Q false s) : wpAny (model P w) A (setAddHashed a (.str k u) (hashStr w k)) Q E s := by
  obtain ⟨es, ep, t⟩ := D
  have el : ElemsOf (strKind P w) es.toList := F.ok.el
  have n : es.size < scanBound := by have : es.size = l.length := F.ok.sz; omega
  unfold setAddHashed setAddHashedIn
  refine wpAny_holding (wpAny_bind (wpAny_setState_of ho rfl F.ok.fit ?_))
  dsimp only
  rw [byScan_of (knd := strKind P w) rfl n el, if_pos rfl]
  unfold setAddByScan
  refine wpAny_bind (wpAny_bind (wpAny_rule (wpAny_bind (wpAny_setScan_of (knd := strKind P w) (k := k) (is_str k u) ho rfl F.ok.fit el ?_))))
  cases e : List.findIdx? (fun e => (strKind P w).is k e.2) es.toList with
  | some j => exact wpAny_pure (wpAny_pure h)
  | none =>
    obtain ⟨c, hc, z⟩ := (F.ok.mem k).mp hk
    have := List.findIdx?_eq_none_iff.mp e c hc
    rw [z] at this; cases this
/-- set.update's loop over texts -/
theorem tset_loop {I : Addr} {fp wr : List Addr} {G : Array GenState → Array GenState → Prop} {n : Nat} {Pv : Nat → Value → Prop} {St : Nat → Shared → Prop} {R : Result → Shared → Prop} {T : String}
    (W : WalksS P w A.in1 I fp wr G n Pv St) {a : Addr} (ha : a ∉ fp) (xs : List Str) (hn : n = xs.length) (hz : xs.length < scanBound) (hv : ∀ i v, Pv i v → ∃ x u, xs[i]? = some x ∧ v = .str x u) :
    ∀ (m i : Nat) (s : Shared) (D : SD) (l : List Str), m + i = n → St i s → s.heap.get? a = some (sObj T D) → Tset P w D l → l.length ≤ i → (∀ x, x ∈ l ↔ x ∈ xs.take i) →
      (∀ s' D' l', Moved (a :: wr) G s s' → s'.heap.get? a = some (sObj T D') → Tset P w D' l' → (∀ x, x ∈ l' ↔ x ∈ xs) → R (.ok (.ret .none)) s') →
      codeAny (model P w) A (.builtin "set.update.loop" ⟨[.ref a, .ref I], []⟩) R s := by
  have haw : a ∉ wr := fun z => ha (W.sub _ z)
  have more : ∀ b ∈ wr, b ∈ a :: wr := fun b z => List.mem_cons_of_mem _ z
  intro m
  induction m with
  | zero =>
    intro i s D l hm hst hg F _ hl hR
    obtain rfl : i = n := by omega
    refine codeAny_builtin PyProof.Rows.F.entry_set_update_loop ?_
    rw [Around.under_plainId PyProof.Rows.F.plain_set_update_loop _]
    show wpAny _ A.in1 (pyNext (.ref I) >>= _) _ _ s
    refine wpAny_bind (W.done s _ _ hst fun s' mv => ?_)
    show wpAny _ A.in1 (ret Value.none) _ _ s'
    refine wpAny_pure (hR s' D l (mv.mono more) (mv.heap a _ haw hg) F fun x => ?_)
    rw [hl x, hn, List.take_length]
  | succ m ih =>
    intro i s D l hm hst hg F hle hl hR
    refine codeAny_builtin PyProof.Rows.F.entry_set_update_loop ?_
    rw [Around.under_plainId PyProof.Rows.F.plain_set_update_loop _]
    show wpAny _ A.in1 (pyNext (.ref I) >>= _) _ _ s
    refine wpAny_bind (W.item i s _ _ (by omega) hst fun v s1 hp hst1 mv => ?_)
    obtain ⟨x, u, hx, rfl⟩ := hv i v hp
    have hg1 := mv.heap a _ haw hg
    show wpAny _ A.in1 (holding [Value.str x u] (setAdd a (.str x u)) >>= _) _ _ s1
    have tk : ∀ y, y ∈ xs.take (i + 1) ↔ y ∈ xs.take i ∨ y = x := fun y => by
      rw [List.take_add_one, hx, List.mem_append]; simp
    refine wpAny_bind (wpAny_holding ?_)
    unfold setAdd
    refine wpAny_holding (wpAny_bind ((strKind P w).pyHash (k := x) (is_str x u) ?_))
    by_cases hk : x ∈ l
    · refine add_again (s := { s1 with toks := s1.toks + 1 }) hg1 F hk (by omega) ?_
      refine wpAny_pure ⟨plainId_quiet PyProof.Rows.F.plain_set_update_loop _, ih (i + 1) _ D l (by omega) (W.frame _ s1 s1.heap _ hst1 (Nat.le_succ _) fun _ _ _ e => e) hg1 F (by omega) (fun y => ?_) fun s' D' l' mv' => hR s' D' l' (Moved.trans W.gtrans ((mv.mono more).then_heap (Nat.le_succ _) fun _ _ _ e => e) mv')⟩
      rw [tk, ← hl y]
      exact ⟨.inl, fun z => z.elim id fun z => z ▸ hk⟩
    · refine add_x (s := { s1 with toks := s1.toks + 1 }) hg1 F.ok hk (by omega) ?_
      refine wpAny_pure ⟨plainId_quiet PyProof.Rows.F.plain_set_update_loop _, ih (i + 1) _ _ (x :: l) (by omega) (W.frame _ s1 _ _ hst1 (Nat.le_succ _) fun b hb o e => ?_) (get_upd _ hg1 rfl) (F.add hk u) (by rw [List.length_cons]; omega) (fun y => ?_) fun s' D' l' mv' => hR s' D' l' (Moved.trans W.gtrans ((mv.mono more).then_heap (Nat.le_succ _) fun b o hb e => ?_) mv')⟩
      · exact PySem.Heap.get?_update_of_ne _ (fun z => ha (z ▸ hb)) e
      · rw [List.mem_cons, tk, ← hl y]; exact Or.comm
      · exact PySem.Heap.get?_update_of_ne _ (fun z => hb (z ▸ List.mem_cons_self)) e
theorem strsA_get : ∀ {us : List Value} {xs : List Str}, PyProof.Rows.StrsAre us xs → ∀ {i : Nat} {v : Value}, us[i]? = some v → ∃ x u, xs[i]? = some x ∧ v = .str x u
  | _, _, .nil, _, _, h => nomatch h
  | _, _, .cons x u r, 0, _, h => ⟨x, u, rfl, (Option.some.inj h).symm⟩
  | _, _, .cons x u r, i + 1, _, h => strsA_get r (i := i) h
theorem code_set1 (v : Value) {R : Value → Shared → Prop}
    (h : R (.ref s.heap.objs.size) { s with heap := s.heap.push ({ cls := .type "set", dict := none, data := .set #[] 0 (.fresh 0 0 (!w.params.followText "set-order")) }) }) : codeAny (model P w) A (.call (.builtin "set.__new__") ⟨[.type "set", v], []⟩) (wants R E) s := by
  refine codeAny_of_tree ?_
  show wpAny _ A.in1 (checkBuiltinCall "set.__new__" ⟨[.type "set", v], []⟩ >>= fun _ => again (.builtin "set.__new__" ⟨[.type "set", v], []⟩)) _ _ s
  refine wpAny_bind (wpAny_of_eq (PySem.F.newCall_set_1 v) (wpAny_pure ⟨plainId_quiet PySem.F.plain_set_new _, codeAny_builtin PySem.F.entry_set_new ?_⟩))
  rw [Around.under_plainId PySem.F.plain_set_new _]
  unfold Builtin.«set.__new__» Builtin.Frozenset.newClass
  have hs := sub_set_self
  obtain ⟨h0, g0, d0, t0, o0⟩ := s
  dsimp only
  wp_walk
  refine wpAny_askSetting (wpAny_pure ?_)
  dsimp only
  simp only [newObj]
  exact wpAny_bind (wpAny_alloc (wpAny_pure (wpAny_pure h)))
theorem tset_new {b : Bool} (hb : b = !w.params.followText "set-order") : Tset P w (#[], 0, .fresh 0 0 b) [] := by
  refine ⟨TxOk.nil (by rfl), List.nodup_nil, List.Pairwise.nil, ?_⟩
  subst hb
  show _ ∨ (!w.params.followText "set-order") = true
  cases w.params.followText "set-order"
  · exact .inr rfl
  · exact .inl rfl
set_option maxHeartbeats 3200000 in
theorem call_setS {l : Addr} {items : Array Value} {xs : List Str} {Q : Value → Shared → Prop} (hh : A.handled = none) (hl : s.heap.IsList l items) (hi : PyProof.Rows.StrsAre items.toList xs) (hz : xs.length < scanBound)
    (h : ∀ (h' : Heap) (tk : Nat) D L, h'.get? s.heap.objs.size = some (sObj "set" D) → Tset P w D L → (∀ x, x ∈ L ↔ x ∈ xs) → (∀ b o, s.heap.get? b = some o → h'.get? b = some o) → Q (.ref s.heap.objs.size) { s with heap := h', toks := tk }) :
    wpAny (model P w) A (call (.type "set") [.ref l]) Q E s := by
  obtain ⟨c, tl, hmro⟩ := PySem.F.called_set.mro
  have hmade := PySem.F.called_set.made
  have hsub := PySem.F.called_set.sub
  refine wpAny_call (codeAny_of_tree ?_)
  show wpAny _ _ (callAny (.type "set") _) _ _ _
  refine wpAny_pure ⟨Code.quiet_builtin _ (by decide +kernel), codeAny_builtin PySem.F.entry_type_call ?_⟩
  rw [Around.under_plain (weight_type_call_type "set" [.ref l] []) rfl]
  have k1 := PySem.F.called_set.notType
  have k2 := PySem.F.called_set.canCreate
  have k3 := PySem.F.typeCall_set_1 (.ref l)
  repeat (any_goals (first | assumption | wp_step))
  refine codeAny_mono (code_set1 (.ref l) (E := E) (R := fun obj s1 => obj = .ref s.heap.objs.size ∧ s1 = { s with heap := s.heap.push ({ cls := .type "set", dict := none, data := .set #[] 0 (.fresh 0 0 (!w.params.followText "set-order")) }) }) ⟨rfl, rfl⟩) fun r s1 hr => ?_
  cases r with
  | error e => exact hr
  | ok fl =>
    cases fl with
    | ret obj =>
      obtain ⟨rfl, rfl⟩ := hr
      have hS : (s.heap.push { cls := .type "set", dict := none, data := .set #[] 0 (.fresh 0 0 (!w.params.followText "set-order")) }).get? s.heap.objs.size = some { cls := .type "set", dict := none, data := .set #[] 0 (.fresh 0 0 (!w.params.followText "set-order")) } := Heap.get?_push_size _ rfl
      have hT : Shared.TypeIs { s with heap := s.heap.push { cls := .type "set", dict := none, data := .set #[] 0 (.fresh 0 0 (!w.params.followText "set-order")) } } (.ref s.heap.objs.size) "set" := ⟨_, hS, rfl⟩
      have k4 := PySem.F.called_set.init.lookup
      have k5 := PySem.F.called_set.init.bind (.ref s.heap.objs.size)
      repeat (any_goals (first | assumption | wp_step))
      refine codeAny_mono (codeAny_call_builtin (R := wants (fun r s2 => r = .none ∧ ∃ h' tk D L, s2 = { s with heap := h', toks := tk } ∧ h'.get? s.heap.objs.size = some (sObj "set" D) ∧ Tset P w D L ∧ (∀ x, x ∈ L ↔ x ∈ xs) ∧
          (∀ b o, s.heap.get? b = some o → h'.get? b = some o)) E) PySem.F.called_set.init.plain PySem.F.entry_set_init (check_set_init_1 hT ?_)) fun r2 s2 hr2 => ?_
      · obtain ⟨ol, gl, cl, nl, dl⟩ := hl
        obtain ⟨ocls, odict, odata, oslots⟩ := ol
        simp only at cl dl
        subst cl; subst dl
        have gl' : (s.heap.push { cls := .type "set", dict := none, data := .set #[] 0 (.fresh 0 0 (!w.params.followText "set-order")) }).get? l = some { cls := .type "list", dict := odict, data := .seq items nl, slots := oslots } := Heap.get?_push_of_some _ gl
        have k6 := PySem.F.sub_list_set
        have k7 := PySem.F.sub_list_frozenset
        have k8 : (Value.type "list" == Value.type "dict") = false := by decide
        have hl1 : (s.heap.push { cls := .type "set", dict := none, data := .set #[] 0 (.fresh 0 0 (!w.params.followText "set-order")) }).IsList l items := ⟨_, gl', rfl, nl, rfl⟩
        unfold Builtin.«set.__init__» noKeywords Builtin.Frozenset.updateFrom
        generalize hPI : pyIter = PI
        wp_walk
        subst hPI
        refine wpAny_pyIter_list hl1 ?_
        refine wpAny_bind (wpAny_runValue ?_)
        have hlt : l < s.heap.objs.size := Heap.lt_size gl
        have h3 : A.in1.in1.in1.handled = none := hh
        have zs : (s.heap.push { cls := .type "set", dict := none, data := .set #[] 0 (.fresh 0 0 (!w.params.followText "set-order")) }).objs.size = s.heap.objs.size + 1 := Heap.size_push ..
        have nI : l ≠ (s.heap.push { cls := .type "set", dict := none, data := .set #[] 0 (.fresh 0 0 (!w.params.followText "set-order")) }).objs.size := by rw [zs]; exact Nat.ne_of_lt (Nat.lt_succ_of_lt hlt)
        have nf : s.heap.objs.size ∉ [(s.heap.push { cls := .type "set", dict := none, data := .set #[] 0 (.fresh 0 0 (!w.params.followText "set-order")) }).objs.size, l] := by
          rw [zs]; simp only [List.mem_cons, List.not_mem_nil, or_false, not_or]
          exact ⟨Nat.ne_of_lt (Nat.lt_succ_self _), Nat.ne_of_gt hlt⟩
        have hn : items.size = xs.length := by rw [← PyProof.Rows.StrsAre.len_eq hi, Array.length_toList]
        have hget : ((s.heap.push { cls := .type "set", dict := none, data := .set #[] 0 (.fresh 0 0 (!w.params.followText "set-order")) }).push { cls := .type "list_iterator", data := .fields #[.ref l, .int 0 0] }).get? s.heap.objs.size = some ({ cls := .type "set", dict := none, data := .set #[] 0 (.fresh 0 0 (!w.params.followText "set-order")) }) := by
          exact Heap.get?_push_of_some _ hS
        refine tset_loop (T := "set") ((Walks.list h3 _ l nI items).toS) nf xs hn hz (fun i v hv => ?_) items.size 0 _ (#[], 0, .fresh 0 0 (!w.params.followText "set-order")) [] rfl ⟨⟨_, Heap.get?_push_size _ rfl, rfl, rfl⟩, hl1.push _⟩ hget (tset_new rfl) (Nat.zero_le _) (fun x => by simp) fun s' D L mv g1 g2 g3 => ?_
        · exact strsA_get hi (i := i) (v := v) (by rw [Array.getElem?_toList]; exact hv)
        · obtain ⟨h2, g2', d2, t2, o2⟩ := s'
          have eg : g2' = s.gens := mv.gens
          have ed : d2 = s.drawn := mv.drawn
          have eo : o2 = s.os := mv.os
          subst eg; subst ed; subst eo
          refine wpAny_pure ?_
          refine wpAny_pure ⟨rfl, h2, t2, D, L, rfl, g1, g2, g3, fun b o e => ?_⟩
          have hb : b < s.heap.objs.size := Heap.lt_size e
          refine mv.heap b o ?_ (Heap.get?_push_of_some _ (Heap.get?_push_of_some _ e))
          rw [zs]; simp only [List.mem_cons, List.not_mem_nil, or_false, not_or]
          exact ⟨Nat.ne_of_lt hb, Nat.ne_of_lt (Nat.lt_succ_of_lt hb)⟩
      · cases r2 with
        | error e => exact hr2
        | ok f2 =>
          cases f2 with
          | ret r =>
            obtain ⟨rfl, h', tk, D, L, rfl, g1, g2, g3, g4⟩ := hr2
            repeat (any_goals (first | assumption | wp_step))
            exact h _ _ _ _ g1 g2 g3 g4
          | _ => exact hr2.elim
    | _ => exact hr.elim
end
end

section
open PySem.Froz
/-- a set of texts -/
def SetSO (P : Program) (w : World) (a : Addr) (L : List Str) : HO := .ext fun h => ∃ D, h.get? a = some (sObj "set" D) ∧ Tset P w D L
theorem setSO_new {P : Program} {w : World} {H : Hp} {h : Heap} {a : Addr} {L : List Str} {D : SD} (g : h.get? a = some (sObj "set" D)) (F : Tset P w D L) : ObjOk P w H h a (SetSO P w a L) :=
  ⟨⟨D, g, F⟩, ⟨_, g⟩, fun _ _ ⟨D', g', F'⟩ k => ⟨D', k _ g', F'⟩⟩
def rSetS (K : PySem.W.Frag) (P : Program) (w : World) : List V → Hp → VK → Prop := fun xs H Q => ∃ (l : Addr) (ks : List Str), xs = [.ref l] ∧ SqL K H l (ks.map V.str) ∧ ks.length < scanBound ∧ ∀ a L, H a = none → L.Nodup → (∀ x, x ∈ L ↔ x ∈ ks) → Q (.ref a) (upd H a (SetSO P w a L))
def rSortSO (P : Program) (w : World) : List V → Hp → VK → Prop := fun xs H Q => ∃ (a : Addr) (L : List Str), xs = [.ref a] ∧ H a = some (SetSO P w a L) ∧ L.length < 64 ∧ ∀ ys p, ys.Perm L → sortedS ys = true → H p = none → Q (.ref p) (upd H p (.lst (ys.map V.str)))
theorem perm_sub {α : Type} [DecidableEq α] : ∀ {L ys : List α}, L.Nodup → (∀ x ∈ L, x ∈ ys) → ys.length ≤ L.length → ys.Perm L
  | [], ys, _, _, h => by
    have : ys = [] := List.eq_nil_of_length_eq_zero (Nat.le_zero.mp h)
    rw [this]
  | x :: L, ys, hn, hs, h => by
    have hx := hs x List.mem_cons_self
    obtain ⟨h1, h2⟩ := List.nodup_cons.mp hn
    have p := List.perm_cons_erase hx
    refine p.trans ((perm_sub h2 (fun y hy => (List.mem_erase_of_ne (fun z : y = x => h1 (by rw [← z]; exact hy))).mpr (hs y (List.mem_cons_of_mem _ hy))) ?_).cons x)
    have := p.length_eq
    rw [List.length_cons] at this h
    omega
section
variable {X : Cx}
theorem cr_setS (hc : X.calm = true) : CallR X (.type "set") (rSetS X.K X.prog X.w) := by
  intro pins s σ H xs us Q I r h
  obtain ⟨l, ks, rfl, hl, hz, q⟩ := h
  rw [Vals.ref1 r]
  obtain ⟨its, rv, pl, _⟩ := I.list hl
  have hn : H s.heap.objs.size = none := I.hok.fresh (Nat.le_refl _)
  refine call_setS (P := X.prog) (w := X.w) (I.ok.hd hc) pl.isList (xs := ks) (by simpa using rv.strs) hz fun h' tk D L g F m k => ?_
  exact ⟨.ref s.heap.objs.size, upd H s.heap.objs.size (SetSO X.prog X.w s.heap.objs.size L), I.laid (t' := tk) k (Nat.le_refl _) (setSO_new g F), rfl, q _ L hn F.nd m⟩
theorem str_of_is {x : Str} {v : Value} (h : (strKind X.prog X.w).is x v = true) : ∃ u, v = .str x u := by
  obtain ⟨t, e⟩ := Value.isStrOf_shape (x := x) (v := v) h
  exact ⟨t, e⟩
theorem tset_vals {D : SD} {L : List Str} {vs : List Value} (F : Tset X.prog X.w D L) (p : vs.Perm (D.1.toList.map (·.2))) : ∃ xs, PyProof.Rows.StrsAre vs xs ∧ xs.Perm L := by
  have hs : ∀ v ∈ vs, ∃ x t, v = .str x t := fun v hv => by
    obtain ⟨e, he, z⟩ := List.mem_map.mp (p.mem_iff.mp hv)
    obtain ⟨⟨k, h1, _⟩, _⟩ := F.ok.el e he
    obtain ⟨u, e2⟩ := str_of_is h1
    exact ⟨k, u, z.symm.trans e2⟩
  have h1 := strsAre_map vs hs
  refine ⟨vs.map PyProof.Rows.strOf, h1, ?_⟩
  have hm : ∀ x, x ∈ L ↔ x ∈ vs.map PyProof.Rows.strOf := fun x => by
    rw [F.ok.mem x]
    constructor
    · rintro ⟨e, he, z⟩
      obtain ⟨u, e2⟩ := str_of_is z
      exact List.mem_map.mpr ⟨e.2, p.mem_iff.mpr (List.mem_map.mpr ⟨e, he, rfl⟩), by rw [e2]; rfl⟩
    · intro hx
      obtain ⟨v, hv, z⟩ := List.mem_map.mp hx
      obtain ⟨e, he, z2⟩ := List.mem_map.mp (p.mem_iff.mp hv)
      obtain ⟨y, t, e3⟩ := hs v hv
      refine ⟨e, he, ?_⟩
      rw [z2, e3]
      rw [e3] at z
      have : y = x := z
      rw [← this]; exact is_str y t
  have hl : (vs.map PyProof.Rows.strOf).length = L.length := by
    rw [List.length_map, p.length_eq, List.length_map, Array.length_toList]
    exact F.ok.sz
  exact perm_sub F.nd (fun x hx => (hm x).mp hx) (by rw [hl]; exact Nat.le_refl _)
theorem cr_sortSO (hc : X.calm = true) : CallR X (.builtin "sorted") (rSortSO X.prog X.w) := by
  intro pins s σ H vs us Q I r h
  obtain ⟨a, L, rfl, ha, h64, q⟩ := h
  obtain ⟨⟨D, g, F⟩, _, _⟩ := I.hok a _ ha
  rw [Vals.ref1 r]
  refine Calls.call_function_entry PyProof.Rows.kind_sorted PyProof.Rows.plain_sorted PyProof.Rows.entry_sorted (PyProof.Rows.args_sorted1 _) ?_
  unfold Builtin.«sorted»
  refine wpAny_bind (m := checkCount "sorted" 1 1 _) (wpAny_pure ?_)
  have hb : D.1.size < scanBound := by
    have : D.1.size = L.length := F.ok.sz
    have e : scanBound = 4096 := rfl
    omega
  refine wpAny_bind (collect_set (A := X.A.in1) (I.ok.hd hc) ⟨_, g, rfl, rfl⟩ F.ok.fit hb F.ris F.led fun s1 us k1 hz g1 o1 pm => ?_)
  obtain ⟨xs, hS, px⟩ := tset_vals F pm
  have hl : us.length = L.length := by rw [hS.length, px.length_eq]
  have hlt : L.length ≤ sizeLine := by rw [sizeLine_eq]; omega
  refine wpAny_bind (wpAny_newList ?_ (by rw [hl]; exact hlt))
  have hoL : (s1.heap.push (PyProof.Rows.seqObj "list" us.toArray 0)).get? s1.heap.objs.size = some (PyProof.Rows.seqObj "list" us.toArray 0) := Heap.get?_push_size _ rfl
  refine wpAny_bind (wpAny_holding (wpAny_call_entry PyProof.Rows.slot_list_sort ⟨_, hoL, rfl⟩ PyProof.Rows.entry_list_sort
    (PyProof.Rows.list_sort_treeK PyProof.Rows.strKind_oneLt (s := { s1 with heap := s1.heap.push (PyProof.Rows.seqObj "list" us.toArray 0) }) hoL hS.keysOf (fun v1 v2 r e => PyProof.Rows.keyKind_strs (by rw [← e]; exact hS)) (by rw [hl]; exact h64) fun st hp hs => ⟨_, rfl, ?_⟩)
    (PyProof.Rows.args_list_sort _)))
  obtain ⟨ys, a1, a2, a3⟩ := PyProof.Rows.sorted_out_str hS hp hs
  obtain ⟨c, hc⟩ := PyProof.Rows.sortedHeap_at (vs := us) (out := (PyProof.Rows.arrOf st).map (·.2)) hoL
  have hlen : (ys.map V.str).length ≤ sizeLine := by rw [List.length_map, a2.length_eq, px.length_eq]; exact hlt
  have hn : H s1.heap.objs.size = none := I.hok.fresh hz
  have kk : ∀ b o, s.heap.get? b = some o → (PyProof.Rows.sortedHeap (s1.heap.push (PyProof.Rows.seqObj "list" us.toArray 0)) s1.heap.objs.size us ((PyProof.Rows.arrOf st).map (·.2))).get? b = some o := fun b o e => by
    have q := k1 b o e
    have hb := Heap.lt_size q
    rw [PyProof.Rows.sortedHeap_old (Nat.ne_of_lt hb) (by rw [PyProof.Rows.size_push']; exact Nat.lt_succ_of_lt hb)]
    exact Heap.get?_push_of_some _ q
  have J : Inv X pins σ (upd H s1.heap.objs.size (.lst (ys.map V.str))) { s with heap := PyProof.Rows.sortedHeap (s1.heap.push (PyProof.Rows.seqObj "list" us.toArray 0)) s1.heap.objs.size us ((PyProof.Rows.arrOf st).map (·.2)), gens := s1.gens, drawn := s1.drawn, toks := s1.toks } :=
    I.call (ch := []) (Un.laid kk hz hn) (I.hok.laid kk hz ⟨hlen, ((PyProof.Rows.arrOf st).map (·.2)).toList, c, vals_of_strs a1, by rw [Array.toArray_toList]; exact hc⟩) (by rw [g1]; exact I.bare) (fun _ z => nomatch z)
  refine wpAny_pure ⟨_, rfl, .ref s1.heap.objs.size, _, ?_, rfl, q ys _ (a2.trans px) a3 hn⟩
  cases s1
  cases s
  cases o1
  exact J
end
end

/-! ### M39. sorted(set(texts)), split, str(o) by an own __str__ -/
def dd : List (List Nat) → List (List Nat)
  | [] => []
  | x :: xs => if x ∈ xs then dd xs else x :: dd xs
theorem mem_dd {x : List Nat} : ∀ {xs}, x ∈ dd xs ↔ x ∈ xs
  | [] => Iff.rfl
  | y :: ys => by
    unfold dd
    split
    · rename_i h
      rw [mem_dd, List.mem_cons]
      exact ⟨.inr, fun z => z.elim (fun z => z ▸ h) id⟩
    · rw [List.mem_cons, List.mem_cons, mem_dd]
theorem nodup_dd : ∀ xs, (dd xs).Nodup
  | [] => List.nodup_nil
  | y :: ys => by
    unfold dd
    split
    · exact nodup_dd ys
    · rename_i h
      exact List.nodup_cons.mpr ⟨fun z => h (mem_dd.mp z), nodup_dd ys⟩
def gSrtSet : List D → Option D
  | [.lst ds] => (strsOf ds).bind fun xs => if xs.length < 4096 ∧ (dd xs).length < 64 then some (.lst ((srtL (dd xs)).map .str)) else none
  | _ => none
def rSrtSet (K : PySem.W.Frag) (P : Program) (w : World) : List V → Hp → VK → Prop := fun vs H Q => rSetS K P w vs H fun v H1 => rSortSO P w [v] H1 Q
theorem S_injN {a b : List Nat} (h : S a = S b) : a = b := congrArg (fun x : Str => x.cps.toList) h
theorem nodup_S : ∀ {xs : List (List Nat)}, xs.Nodup → (xs.map S).Nodup
  | [], _ => List.nodup_nil
  | x :: xs, h => by
    obtain ⟨h1, h2⟩ := List.nodup_cons.mp h
    refine List.nodup_cons.mpr ⟨fun z => ?_, nodup_S h2⟩
    obtain ⟨y, hy, e⟩ := List.mem_map.mp z
    exact h1 (S_injN e ▸ hy)
section
variable {K : PySem.W.Frag} {ca : Str → Addr}
theorem a_srtSet {P : Program} {w : World} : NA K ca (rSrtSet K P w) gSrtSet := by
  intro H B vs ds z Q lv hb hg q
  unfold gSrtSet at hg
  split at hg
  · rename_i es
    obtain ⟨xs, e1, e2⟩ := Option.bind_eq_some_iff.mp hg
    obtain ⟨⟨c1, c2⟩, rfl⟩ := ifo e2
    obtain ⟨v, rfl, hv⟩ := bA1 hb
    obtain ⟨a, ys, rfl, h1, r⟩ := hv.lst
    have := rep_strs r e1
    subst this
    refine ⟨a, xs.map S, rfl, SqL.of h1, by rw [List.length_map]; exact c1, fun b L hn nd hm => ?_⟩
    have pL : L.Perm ((dd xs).map S) := (List.perm_ext_iff_of_nodup nd (nodup_S (nodup_dd xs))).mpr fun x => by
      rw [hm x]
      constructor
      · intro hx
        obtain ⟨y, hy, e⟩ := List.mem_map.mp hx
        exact List.mem_map.mpr ⟨y, mem_dd.mpr hy, e⟩
      · intro hx
        obtain ⟨y, hy, e⟩ := List.mem_map.mp hx
        exact List.mem_map.mpr ⟨y, mem_dd.mp hy, e⟩
    refine ⟨b, L, rfl, upd_same, by rw [pL.length_eq, List.length_map]; exact c2, fun ys p hp hs hn2 => ?_⟩
    rw [srt_of (hp.trans pL) hs]
    have hn3 : H p = none := by
      by_cases e : p = b
      · rw [e]; exact hn
      · rw [upd_ne e] at hn2; exact hn2
    exact q p _ _ hn3 (fun a o e => SameH.new hn2 a o (SameH.new hn a o e)) upd_same (rep_strs' _)
  · cases hg
def gSplit (d : D) (ds : List D) : Option D := match d, ds with
  | .str a, [.str b] => if b ≠ [] ∧ a.length + 2 ≤ sizeLine then some (.lst ((Txt.split (S a) (S b)).map fun y => .str y.cps.toList)) else none
  | _, _ => none
theorem rep_strsC {H : Hp} : ∀ (xs : List Str), RepA K ca H (xs.map V.str) (xs.map fun y => D.str y.cps.toList)
  | [] => .nil
  | x :: xs => by
    have h := Rep.str (K := K) (ca := ca) (H := H) x.cps.toList
    rw [cps_S] at h
    exact .cons h (rep_strsC xs)
theorem m_split : GM K ca (fun x xs H Q => ∃ a b, x = .str a ∧ xs = [.str b] ∧ (b.length == 0) = false ∧ a.length + 2 ≤ sizeLine ∧ rNewStrs (Txt.split a b) H Q) gSplit := by
  intro H B v vs d ds z Q lv hv hb hg q
  unfold gSplit at hg
  split at hg
  · rename_i a b
    obtain ⟨⟨c1, c2⟩, rfl⟩ := ifo hg
    obtain ⟨w, rfl, hw⟩ := bA1 hb
    refine ⟨S a, S b, hv.str, by rw [hw.str], ?_, by rw [S_len]; exact c2, fun p hp => ?_⟩
    · rw [S_len]
      cases b with
      | nil => exact absurd rfl c1
      | cons _ _ => rfl
    · exact q _ _ (SameH.new hp) (.lst (mask_get (live_new lv hp) upd_same) (rep_strsC _))
  · cases hg
end
section
variable {X : Cx} {e : Expr} {te : TE} {p p2 q pos : Pos}
theorem pe_srtSet (hc : X.calm = true) (hg : Gl X "sorted") (hm : X.mg "sorted" = none) (hg2 : Gl X "set") (hm2 : X.mg "set" = none) (he : PE X e te) (hs : starEach [e] X.env = (false, eval e X.env) :: starEach [] X.env := by rfl) :
    PE X (.Call (.Name "sorted" p) [.Call (.Name "set" p2) [e] [] q] [] pos) (tCB (rSrtSet X.K X.prog X.w) (tCons te tNil)) :=
  show PE X _ (tCB (rSortSO X.prog X.w) (tCons (tCB (rSetS X.K X.prog X.w) (tCons te tNil)) tNil)) from pe_callB (id := "sorted") (cr_sortSO hc) hg hm (by decide +kernel) (pa_cons (pe_callTy (T := "set") (cr_setS hc) hg2 hm2 (by decide +kernel) (pa_cons he pa_nil hs) (he := hs)) pa_nil)
end

/-! ### M40. str(o) by an own __str__ -/
def rStrO (C : Addr) (sp : Sp) : List V → Hp → VK → Prop := fun vs H Q => ∃ a dx fs, vs = [.ref a] ∧ H a = some (.ins C dx fs) ∧ sp [.ref a] H (fun v H3 => ∃ t, v = .str t ∧ Q (.str t) H3) E0
section
variable {X : Cx} {k j : Nat} {C : Addr} {sp : Sp}
theorem cr_strO (c : C8.Met X.prog X.w X.K X.mg X.base k C "__str__" sp []) (hr : Room j X.A) (hk : k + 2 ≤ j) : CallR X (.type "str") (rStrO C sp) := by
  intro pins s σ H xs us Q I r h
  obtain ⟨a, dx, fs, rfl, ea, h⟩ := h
  obtain ⟨f, fd, ps, ds, hc, hm, F, b, d⟩ := c.ex
  cases d
  rw [Vals.ref1 r]
  obtain ⟨mA, O, _, _, _, _⟩ := ins_get I.hok ea
  obtain ⟨od, J, _⟩ := O.look
  have r1 : Room k X.A.in1.in1 := (hr.mono hk).in1.in1
  refine PySem.W.kso_call (by have := hr.un; show X.A.units + 1 + 1 < _; omega) I.kIn J hm.at_ hm.fn ?_
  have hb := b s [.ref a] I.kIn (by have := F.len _ _ _ _ h; simpa using this)
  rw [List.append_nil] at hb
  refine wpAny_call (codeAny_mono (F.run X.A.in1.in1 X.stack s H ⟨[.ref a], []⟩ [.ref a] [.ref a] _ E0 r1 I.env0.in1.in1 hb (.cons rfl .nil) h) fun r s' hq => ?_)
  cases r with
  | error e => exact hq.elim
  | ok fl =>
    cases fl with
    | ret u =>
      obtain ⟨v, H3, I3, rv, t, e, q⟩ := I.after hq
      subst e
      obtain ⟨tk, rfl⟩ := rv
      exact ⟨.str t, H3, I3, ⟨tk, rfl⟩, q⟩
    | next => exact hq.elim
    | brk => exact hq.elim
    | cont => exact hq.elim
end
def mStrO (c : Str) (ks : List Kd) (m : Mr) (fx : MM Pl) : MM D := fun ρ => (fx ρ).bind fun x => (Rs.of (plD x.2 x.1)).bind fun d0 => if isObjD c "__str__" d0 = true ∧ isNwP x.1 = false then
  (mMethK ks [x.1] x.2 (noEr m)).bind fun z => (Rs.of (strOf z.1)).bind fun t => .ok (.str t, z.2) else .no
section
variable {N : Cn} {ks : List Kd} {tx : TE} {fx : MM Pl} {m : Mr} {c : Str}
theorem se_strO (hx : SPl N tx fx) : SE N (tCB (rStrO (N.ca c) (spM N.K N.ca ks false false m)) (tCons tx tNil)) (mStrO c ks m fx) := by
  intro B ρ σ H Q I hp
  unfold tCB tCons rStrO
  unfold mStrO at hp
  refine Post.next back_E hx I hp fun vx px ρ2 B2 H2 I2 s2 r2 q => ?_
  obtain ⟨d0, e0, q⟩ := q.opt
  obtain ⟨⟨ho, hnx⟩, q⟩ := q.iff
  obtain ⟨a, dx, fv, rfl, h1, h2⟩ := isObj_of (bor_of I2 r2.1 e0) ho
  refine ⟨a, dx, fv, rfl, h1, ?_⟩
  refine spM_of (meth_end (m := noEr m) (B := B2) (ρ := ρ2) (H := H2) I2 Stp.rfl (rA_cons r2.1 hnx ⟨.nil, .nil, fun _ h => nomatch h⟩) ?_)
  cases em : mMethK ks [px] ρ2 (noEr m) with
  | no => simp only [em] at q; exact q.elim
  | er cc fl =>
    exfalso
    unfold mMethK noEr at em
    cases ea : argsD ks [px] ρ2 with
    | none => rw [ea] at em; cases em
    | some ds =>
      rw [ea] at em
      simp only [Rs.of, Rs.bind] at em
      split at em
      · cases mm : m ds with
        | no => simp only [mm] at em; cases em
        | er c2 f2 => simp only [mm] at em; cases em
        | ok r => simp only [mm] at em; cases em
      · cases em
  | ok z =>
    simp only [em] at q
    intro v B3 H3 I3 s3 r3
    obtain ⟨t, et, q⟩ := q.opt
    cases z with
    | mk z1 z2 =>
      cases z1 with
      | str x =>
        have et : x = t := Option.some.inj et
        subst et
        have r3 : Rep N.K N.ca (mask H3 B3) v (.str x) := r3
        cases r3
        exact ⟨_, rfl, q _ B3 H3 I3 s3 (.str _)⟩
      | _ => cases et
end

/-! ### M41. a classmethod with a starred parameter -/
structure ClsM (K : PySem.W.Frag) (C : Addr) (m qual : Str) (st : Stmt) : Prop where
  rd : ClX.CRead K C (.type "type")
  ex : ∃ (p g : Addr) (fd : FuncData), ClX.CMet K C (.type "type") m p g ∧ Fun K m qual st g fd
def spC (K : PySem.W.Frag) (ca : Str → Addr) (ks : List Kd) (rn rs : Bool) (m : Mr) : Sp := fun vs H Q E => ∃ u ws, vs = u :: ws ∧ spM K ca ks rn rs m ws H Q E
def spStar (sp : Sp) : Sp := fun vs H Q E => ∃ ws rest, vs = ws ++ rest ∧ ws.length = 1 ∧ rest.length ≤ sizeLine ∧ ∀ p, H p = none → sp (ws ++ [V.ref p]) (upd H p (.tup rest)) Q E
def runC (rn : Bool) (ks : List Kd) (n : Nat) (m : MS) : Mr := fun ds => match m (.e :: ini ks ds n) with
  | .rt nw d _ => if rn = true ∧ nw = false then .no else .ok (d, ds)
  | .er c fs => .er c fs
  | _ => .no
section
variable {K : PySem.W.Frag} {ca : Str → Addr} {H0 H : Hp} {C : Nat → Option Addr} {B0 B : Addr → Bool} {E : XK} {ρ : Env'} {σ : L2.St}
theorem iv_cons (I : Iv ⟨K, ca, H0, C, B0, E⟩ B ρ σ H) (hC : ∀ j, C j = none) (x : Option V) : Iv ⟨K, ca, H0, C, B0, E⟩ B (.e :: ρ) (x :: σ) H where
  fr := I.fr
  cb := I.cb
  ci := I.ci
  ck := fun j b e => by
    have e : C j = some b := e
    rw [hC j] at e; cases e
  bb := I.bb
  bh := I.bh
  tr := I.tr
  ln := by rw [List.length_cons, List.length_cons, I.ln]
  sl := fun j y e => by
    cases j with
    | zero => cases e; trivial
    | succ j =>
      have h := I.sl j y e
      rw [List.getElem?_cons_succ]
      cases y with
      | i d =>
        obtain ⟨a, o, _, h1, _⟩ := h
        have h1 : C j = some a := h1
        rw [hC j] at h1; cases h1
      | _ => exact h
  ds := fun j k x y a ne e1 e2 e3 e4 => by
    cases j with
    | zero => cases e1
    | succ j =>
      cases k with
      | zero => cases e2
      | succ k => exact I.ds j k x y a (fun z => ne (by rw [z])) e1 e2 e3 e4
theorem cOf_v {ks : List Kd} (hv : ∀ k ∈ ks, k = .v) (vs : List V) (j : Nat) : cOf ks vs j = none := by
  cases e : cOf ks vs j with
  | none => rfl
  | some a =>
    have := hv _ (List.mem_of_getElem? (cOf_some e).1)
    cases this
theorem start_cons {N N' : List Str} {u : V} {ws : List V} (h : N.length = N'.length + 1) : L2.start N (u :: ws) = some u :: L2.start N' ws := by
  unfold L2.start
  rw [h, List.length_cons, Nat.add_sub_add_right]; rfl
theorem body_okC {ks : List Kd} {rn : Bool} {m : MS} {t : TS} {N : List Str} {Q : VK} {vs : List V} (hv : ∀ k ∈ ks, k = .v) (hN : ks.length + 1 ≤ N.length) (hS : ∀ H0 C B0, SS ⟨K, ca, H0, C, B0, E⟩ t m)
    (h : spC K ca ks rn true (runC rn ks (N.length - 1 - ks.length) m) vs H Q E) : t { nx := fun _ H' => Q .non H', rt := Q } (L2.start N vs) H := by
  obtain ⟨u, ws, rfl, B0, ds, ha, hm⟩ := h
  obtain ⟨N', hN'⟩ : ∃ N' : List Str, N.length = N'.length + 1 := ⟨N.tail, by rw [List.length_tail]; omega⟩
  have I := ha.iv (N := N') (by omega) E
  rw [start_cons hN']
  have I2 := iv_cons I (fun j => cOf_v hv ws j) (some u)
  refine hS H (cOf ks ws) B0 B0 _ _ H _ I2 ?_
  have en : N.length - 1 - ks.length = N'.length - ks.length := by omega
  rw [en] at hm
  unfold runC at hm
  have noC : ∀ {P : Prop} (j : Nat) (b : Addr), cOf ks ws j = some b → P := fun j b e => by rw [cOf_v hv ws j] at e; cases e
  cases em : m (.e :: ini ks ds (N'.length - ks.length)) with
  | no => rw [em] at hm; exact hm
  | bk ρ' => rw [em] at hm; exact hm.elim
  | ct ρ' => rw [em] at hm; exact hm.elim
  | nx ρ' => rw [em] at hm; exact hm.elim
  | er c fs => rw [em] at hm; exact hm.2
  | rt nw d ρ' =>
    rw [em] at hm
    by_cases hr : rn = true ∧ nw = false
    · simp only [if_pos hr] at hm
    · simp only [if_neg hr] at hm
      cases nw with
      | false =>
        intro v σ' B' H' I' s' r'
        have : rn = false := by cases rn <;> simp_all
        subst this
        exact hm v H' B0 I'.fr (fun j b e => noC j b e) ⟨rfl, r'.up (mask_sub fun x hx => I'.bb x hx)⟩
      | true =>
        intro v σ' B' H' I' s' r'
        obtain ⟨p, o, rfl, h0, hb, f, ep, c⟩ := r'
        have hp0 : B0 p = false := I'.b0 h0
        cases rn with
        | false =>
          refine hm (.ref p) H' B0 I'.fr (fun j b e => noC j b e) ⟨rfl, ?_⟩
          have c' := c.up (mask_sub (B' := B0) fun x hx => I'.bb x hx)
          exact c'.rep SameH.rfl (mask_get hp0 ep)
        | true =>
          have sub : ∀ x, addB B0 p x = true → B' x = true := fun x hx => by
            by_cases q : x = p
            · rw [q]; exact hb
            · rw [addB_ne q] at hx; exact I'.bb x hx
          exact hm (.ref p) H' (addB B0 p) I'.fr (fun j b e => noC j b e) ⟨p, o, rfl, h0, ep, rfl, c.up (mask_sub sub)⟩
end
section
variable {N : Cn} {m : Mr} {t : TA} {rn : Bool} {C : Addr}
theorem star_imp {rs : Bool} {E' : XK} {σ : L2.St} {H : Hp} {Q : VK} (h : tCall (spM N.K N.ca [.v] rn rs m) [] E' (tCons (tTup t) tNil) σ H Q) (ht : ∀ {R R' : List V → Hp → Prop}, (∀ vs H1, R vs H1 → R' vs H1) → t σ H R → t σ H R') :
    ClX.tCMeth C (spStar (spC N.K N.ca [.v] rn rs m)) E' (tC (.ref C)) t σ H Q := by
  refine ⟨rfl, ht (fun vs H1 z => ?_) h⟩
  obtain ⟨hl, z⟩ := z
  exact ⟨[.ref C], vs, rfl, rfl, hl, fun p hp => ⟨.ref C, [.ref p], rfl, z p hp⟩⟩
end
section
variable {X : Cx} {CX : CXT} {k : Nat} {C p g : Addr} {mc : Value} {sp : Sp} {E : XK} {o : Expr} {m : Str} {pos apos : Pos} {ta : TE} {pl : Sem Bool}
theorem pe_cmeth0 (he : PE X o ta) (r : ClX.CRead X.K C mc) (c : ClX.CMet X.K C mc m p g) (F : FnR X.prog X.w X.K X.mg X.base CX k g sp) (hr : Room k X.A) (hx : Passes CX X E)
    (ht : eval (.Call (.Attribute o m apos) [] [] pos) X.env = (do
      let ov ← eval o X.env
      standAt apos.atName
      let (f, first) ← holding [ov] (getMethod ov m pl)
      callWith pos f first (backTo pos (starEach [] X.env)) (backToKw pos (keywordEach [] X.env))) := by rfl) :
    PE X (.Call (.Attribute o m apos) [] [] pos) (ClX.tCMeth C sp E ta tNil) := by
  refine ⟨fun pins s σ H Q I h => ?_⟩
  refine PySem.W.methodCall_KW (pl := pl) (thn (he.run pins s σ H _ I h) fun u s1 ⟨x, H1, I1, rx, ex, q⟩ => ?_) ht
  subst ex
  obtain rfl : u = Value.ref C := rx
  refine ClX.getmethcm_ok I1 r c fun s2 I2 => ?_
  exact PySem.W.callWith_M0 ⟨ClX.pin_at I2, I2.kIn⟩ c.fi (ClX.run_cm F hr hx I2 .nil q)
end
theorem clsMX {P : Program} {w : World} {K : PySem.W.Frag} {mg : Str → Option Value} {base : Heap} {ca : Str → Addr} {C : Addr} {mn qual pv : Str} {st : Stmt} {Nm : List Str} {k n : Nat} {rn : Bool} {ms : MS} (D : ClsM K C mn qual st) (S : FnScope Nm ["cls", pv] (defScope st)) (hN : Nm.length = 2 + n)
    (h0 : ∀ (a kV doc pm : Value) (an : Option Addr) (cdv ct : Value), bindArgs (PySem.W.fnOf mn qual (defArgs st) (defBody st) (defScope st) .none kV doc pm an cdv ct) ⟨[a], []⟩ = (newTuple [] >>= fun t => pure [(("cls" : Str), a), (pv, t)]))
    (h1 : ∀ (a r : Value) (rs : List Value) (kV doc pm : Value) (an : Option Addr) (cdv ct : Value), bindArgs (PySem.W.fnOf mn qual (defArgs st) (defBody st) (defScope st) .none kV doc pm an cdv ct) ⟨a :: r :: rs, []⟩ = (newTuple (r :: rs) >>= fun t => pure [(("cls" : Str), a), (pv, t)]))
    (hb : ∀ (f : Addr) (cdv : Value) (A : Around) (outer : List Env) (s : Shared) (H : Hp) (E : XK), Room k (A.deeper (envOfC qual (defScope st) s.heap.objs.size f cdv)) →
      ∃ t, PSs (cxOf (L2.CX P w) P w K mg base Nm qual (defScope st) f cdv A outer s H E) (defBody st) t ∧ ∀ H0 C B0, SS ⟨K, ca, H0, C, B0, E⟩ t ms) :
    ClX.CRead K C (.type "type") ∧ ∃ p g, ClX.CMet K C (.type "type") mn p g ∧ FnR P w K mg base (L2.CX P w) (k + 1) g (spStar (spC K ca [.v] rn true (runC rn [.v] n ms))) := by
  refine ⟨D.rd, ?_⟩
  obtain ⟨p, g, fd, c, F⟩ := D.ex
  refine ⟨p, g, c, ?_⟩
  obtain ⟨oc, od, kV, doc, pm, an, cdv, ct, osl, rfl, lk, hcd⟩ := F.ex
  refine StX.fn_star (ps := ["cls"]) (pv := pv) (sp := spC K ca [.v] rn true (runC rn [.v] n ms)) lk hcd S StX.cxUp (StX.bind_star1 (B := fun l => bindArgs (PySem.W.fnOf mn qual (defArgs st) (defBody st) (defScope st) .none kV doc pm an cdv ct) ⟨l, []⟩) (fun a => h0 a _ _ _ _ _ _) fun a r rs => h1 a r rs _ _ _ _ _ _) fun A outer s H vs Q E hr h => ?_
  obtain ⟨t, p1, p2⟩ := hb g cdv A outer s H E hr
  refine ⟨t, p1, body_okC (rn := rn) (fun k hk => by rw [List.mem_singleton.mp hk]) (by rw [hN, List.length_singleton]; omega) p2 ?_⟩
  have e : Nm.length - 1 - [Kd.v].length = n := by rw [hN, List.length_singleton]; omega
  rw [e]; exact h
section
variable {X : Cx} {k j : Nat} {C : Addr} {sp : Sp} {E : XK} {o : Expr} {m : Str} {pos apos : Pos} {ta : TE} {pl : Sem Bool}
theorem pe_of0 (c : ClX.CRead X.K C (.type "type") ∧ ∃ p g, ClX.CMet X.K C (.type "type") m p g ∧ FnR X.prog X.w X.K X.mg X.base (L2.CX X.prog X.w) k g sp) (hr : Room j X.A) (hk : k ≤ j) (he : PE X o ta) (hx : Passes (L2.CX X.prog X.w) X E)
    (ht : eval (.Call (.Attribute o m apos) [] [] pos) X.env = (do
      let ov ← eval o X.env
      standAt apos.atName
      let (f, first) ← holding [ov] (getMethod ov m pl)
      callWith pos f first (backTo pos (starEach [] X.env)) (backToKw pos (keywordEach [] X.env))) := by rfl) :
    PE X (.Call (.Attribute o m apos) [] [] pos) (ClX.tCMeth C sp E ta tNil) := by
  obtain ⟨r, p, g, c, F⟩ := c
  exact pe_cmeth0 he r c F (hr.mono hk) hx ht
end
section
variable {N : Cn} {m : Mr} {rn rs : Bool} {C : Addr} {f : MM D}
theorem sn_of0 (h : SN N (tCall (spM N.K N.ca [.v] true true m) [] N.E (tCons (tTup tNil) tNil)) f) : SN N (ClX.tCMeth C (spStar (spC N.K N.ca [.v] true true m)) N.E (tC (.ref C)) tNil) f :=
  fun B ρ σ H Q I hp => star_imp (h B ρ σ H Q I hp) fun i z => i _ _ z
end

/-! ### M42. sorted of a tuple of texts -/
def rSortTS (K : PySem.W.Frag) : List V → Hp → VK → Prop := fun vs H Q => ∃ (a : Addr) (xs : List Str), vs = [.ref a] ∧ SqT K H a (xs.map V.str) ∧ xs.length < 64 ∧ ∀ ys p, ys.Perm xs → sortedS ys = true → H p = none → Q (.ref p) (upd H p (.lst (ys.map V.str)))
section
variable {X : Cx}
theorem cr_sortTS : CallR X (.builtin "sorted") (rSortTS X.K) := by
  intro pins s σ H vs us Q I r h
  obtain ⟨a, xs, rfl, ht, h64, q⟩ := h
  obtain ⟨its, rv, ⟨o, ho, hc, n, hd⟩, _⟩ := I.tuple ht
  rw [Vals.ref1 r]
  have hS : PyProof.Rows.StrsAre its xs := rv.strs
  have hl : its.length = xs.length := hS.length
  have hlt : xs.length ≤ sizeLine := by rw [sizeLine_eq]; omega
  refine Calls.call_function_entry PyProof.Rows.kind_sorted PyProof.Rows.plain_sorted PyProof.Rows.entry_sorted (PyProof.Rows.args_sorted1 _) ?_
  unfold Builtin.«sorted»
  refine wpAny_bind (m := checkCount "sorted" 1 1 _) (wpAny_pure ?_)
  refine wpAny_bind (wpAny_collect_seq (A := X.A.in1) a (.inr rfl) ho hc hd (fun h' hk => ?_) (by rw [List.size_toArray, hl]; exact hlt))
  have e1 : its.toArray.toList = its := by simp
  rw [e1]
  have I1 : Inv X pins σ H { s with heap := h' } := I.kept (t' := s.toks) hk
  refine wpAny_bind (wpAny_newList ?_ (by rw [hl]; exact hlt))
  have hoL : (h'.push (PyProof.Rows.seqObj "list" its.toArray 0)).get? h'.objs.size = some (PyProof.Rows.seqObj "list" its.toArray 0) := Heap.get?_push_size _ rfl
  refine wpAny_bind (wpAny_holding (wpAny_call_entry PyProof.Rows.slot_list_sort ⟨_, hoL, rfl⟩ PyProof.Rows.entry_list_sort
    (PyProof.Rows.list_sort_treeK PyProof.Rows.strKind_oneLt (s := { s with heap := h'.push (PyProof.Rows.seqObj "list" its.toArray 0) }) hoL hS.keysOf (fun v1 v2 r e => PyProof.Rows.keyKind_strs (by rw [← e]; exact hS)) (by rw [hl]; exact h64) fun st hp hs => ⟨_, rfl, ?_⟩)
    (PyProof.Rows.args_list_sort _)))
  obtain ⟨ys, a1, a2, a3⟩ := PyProof.Rows.sorted_out_str hS hp hs
  obtain ⟨c, hc2⟩ := PyProof.Rows.sortedHeap_at (vs := its) (out := (PyProof.Rows.arrOf st).map (·.2)) hoL
  have hlen : (ys.map V.str).length ≤ sizeLine := by rw [List.length_map, a2.length_eq]; exact hlt
  refine wpAny_pure ⟨_, rfl, .ref h'.objs.size, upd H h'.objs.size (.lst (ys.map V.str)), I1.laid (t' := s.toks) (fun b u e => ?_) (Nat.le_refl _)
    (show ObjOk X.prog X.w _ _ _ (.lst (ys.map V.str)) from ⟨hlen, ((PyProof.Rows.arrOf st).map (·.2)).toList, c, vals_of_strs a1, by rw [Array.toArray_toList]; exact hc2⟩), rfl, q ys _ a2 a3 (I1.hok.fresh (Nat.le_refl _))⟩
  have hb := Heap.lt_size e
  rw [PyProof.Rows.sortedHeap_old (Nat.ne_of_lt hb) (by rw [PyProof.Rows.size_push']; exact Nat.lt_succ_of_lt hb)]
  exact Heap.get?_push_of_some _ e
theorem kx_sortTS {K : PySem.W.Frag} (h : X.K = K) : CallR X (.builtin "sorted") (rSortTS K) := h ▸ cr_sortTS
end
def gSortT : List D → Option D
  | [.tup es] => (strsOf es).bind fun xs => if xs.length < 64 then some (.lst ((srtL xs).map .str)) else none
  | _ => none
section
variable {K : PySem.W.Frag} {ca : Str → Addr}
theorem a_sortT : NA K ca (rSortTS K) gSortT := by
  intro H B vs ds z Q lv hb hg q
  unfold gSortT at hg
  split at hg
  · rename_i es
    obtain ⟨xs, e1, e2⟩ := Option.bind_eq_some_iff.mp hg
    obtain ⟨c, rfl⟩ := ifo e2
    obtain ⟨v, rfl, hv⟩ := bA1 hb
    obtain ⟨a, ys, rfl, h1, r⟩ := hv.tup
    have := rep_strs r e1
    subst this
    refine ⟨a, xs.map S, rfl, .inl (.inl (mask_le _ _ h1)), by rw [List.length_map]; exact c, fun ys p hp hs hn => ?_⟩
    rw [srt_of hp hs]
    exact q p _ _ hn (SameH.new hn) upd_same (rep_strs' _)
  · cases hg
end
/-! an item of a list or a tuple -/
def gIxQ (d e : D) : Option D := match gIxL d e with
  | some z => some z
  | none => gIxT d e
theorem g_ixQ {K : PySem.W.Frag} {ca : Str → Addr} : G2 K ca (rIx K) gIxQ := by
  intro H B v w d e z Q lv h1 h2 hg q
  unfold gIxQ at hg
  cases e1 : gIxL d e with
  | some z' =>
    rw [e1] at hg
    cases hg
    exact .inl (g_ixL H B v w d e z Q lv h1 h2 e1 q)
  | none =>
    rw [e1] at hg
    exact .inr (.inl (g_ixT H B v w d e z Q lv h1 h2 hg q))
theorem gIxQ_l {xs : List D} {e : D} : gIxQ (.lst xs) e = gIxL (.lst xs) e := by
  unfold gIxQ
  cases e1 : gIxL (.lst xs) e with
  | some z => rfl
  | none => rfl
theorem gIxQ_t {xs : List D} {e : D} : gIxQ (.tup xs) e = gIxT (.tup xs) e := rfl

/-! ### M43. try .. except X: return ..; what a suite gives back, no name -/
def HxOkO (K : PySem.W.Frag) (ca : Str → Addr) (cv : Value) (ts : Addr → Value → Option Addr → TS) (Wout : WX) (hx : Str → List (Str × D) → Rs D) : Prop :=
  ∀ (c : Str) (fs : List (Str × D)) (x : D) (dx : Addr) (fv : List (Str × V)) (H' : Hp) (B : Addr → Bool) (W : Ends) (σ : L2.St), hx c fs = .ok x → H' dx = some (.xd fv) → fv.map (·.1) = fs.map (·.1) → RepA K ca (mask H' B) (fv.map (·.2)) (fs.map (·.2)) →
    (∀ v H'', SameH H' H'' → Rep K ca (mask H'' B) v x → W.rt v H'') → wOnly K cv ts Wout W (.ref (ca c)) (some dx) σ H'
section
variable {N : Cn}
theorem ss_tryRO {tb : XK → TS} {mb : MS} {cv : Value} {n : Nat} {ts : Addr → Value → Option Addr → TS} {Wout : WX} {hx : Str → List (Str × D) → Rs D}
    (hb : ∀ EE H0 C B0, SS ⟨N.K, N.ca, H0, C, B0, EE⟩ (tb EE) mb) (hne : ∀ c fs c' fs', hx c fs ≠ .er c' fs') (hh : HxOkO N.K N.ca cv ts Wout hx) :
    SS N (fun D σ H => tb (fun cls d H2 => ∀ σ : L2.St, σ.length = n → wOnly N.K cv ts Wout D cls d σ H2) D σ H) (sTryR mb hx) := by
  intro B ρ σ H W I hp
  unfold sTryR at hp
  by_cases hρ : ρ.any ownS = false
  · rw [if_pos hρ] at hp
    refine hb _ _ _ _ B ρ σ H W (I.toTry hρ _) ?_
    cases e : mb ρ with
    | no => rw [e] at hp; exact hp
    | bk ρ' => rw [e] at hp; exact fun σ' B' H' J s => hp σ' B' H' (I.ofTry hρ J) s
    | ct ρ' => rw [e] at hp; exact fun σ' B' H' J s => hp σ' B' H' (I.ofTry hρ J) s
    | nx ρ' => rw [e] at hp; exact fun σ' B' H' J s => hp σ' B' H' (I.ofTry hρ J) s
    | rt nw d ρ' =>
      rw [e] at hp
      cases nw with
      | false => exact fun v σ' B' H' J s r => hp v σ' B' H' (I.ofTry hρ J) s r
      | true =>
        refine fun v σ' B' H' J s r => hp v σ' B' H' (I.ofTry hρ J) s ?_
        obtain ⟨p, o, h1, h2, h3⟩ := r
        exact ⟨p, o, h1, I.no0 h2, h3⟩
    | er c fs =>
      rw [e] at hp
      have hp : PostS N B H W ((hx c fs).out fun x => .rt false x ρ) := hp
      show XOk _ c fs
      intro dx H' fv h0 hfr hx' hk hr σ' hl
      cases ex : hx c fs with
      | no => rw [ex] at hp; exact hp.elim
      | er c' fs' => exact (hne c fs _ _ ex).elim
      | ok x =>
        rw [ex] at hp
        have sH : SameH H H' := fun b o e => hfr b o (fun _ z => nomatch z) e
        refine hh c fs x dx fv H' N.B0 W σ' ex hx' hk hr fun v H'' s2 rv => ?_
        have I2 := (I.grow (sH.tr s2)).least hρ
        exact hp v σ N.B0 H'' I2 ((mask_up (sH.tr s2)).tr (mask_sub fun x hx => I.bb x hx)) rv
  · rw [if_neg hρ] at hp; exact hp.elim
end
theorem mt_joinK {X : Cx} {K : PySem.W.Frag} (h : X.K = K) : MtR X "str.join" (fun x xs H Q => ∃ a p ys, x = V.str a ∧ xs = [V.ref p] ∧ (SqL K H p (ys.map V.str) ∨ SqT K H p (ys.map V.str)) ∧ (ys.map (fun x => x.length)).sum + ys.length * a.length ≤ 16777216 ∧ Q (V.str (Txt.join a ys)) H) := h ▸ mt_join
/-! len of a dict -/
def rLenR : List V → Hp → VK → Prop := fun xs H Q => ∃ (a : Addr) (kvs : List (Key × V)), xs = [.ref a] ∧ Rd H a (.dK kvs) ∧ Q (.int kvs.length) H
theorem cr_lenD {X : Cx} : CallR X (.builtin "len") rLenR := by
  intro pins s σ H xs us Q I r h
  obtain ⟨a, kvs, rfl, ha, q⟩ := h
  rw [Vals.ref1 r]
  exact d_len I ha fun t s' I' => ⟨.int kvs.length, H, I', ⟨t, rfl⟩, q⟩
def gLenD : List D → Option D
  | [.dk es] => some (.int es.length)
  | _ => none
theorem gLenD_k {es : List (Key × D)} : gLenD [.dk es] = some (.int es.length) := rfl
theorem a_lenD {K : PySem.W.Frag} {ca : Str → Addr} : GA K ca rLenR gLenD := by
  intro H B vs ds z Q lv hb hg q
  unfold gLenD at hg
  split at hg
  · rename_i es
    cases hg
    obtain ⟨v, rfl, hv⟩ := bA1 hb
    obtain ⟨a, kvs, rfl, rd, ek, r⟩ := hv.dk
    refine ⟨a, kvs, rfl, rd, ?_⟩
    have : kvs.length = es.length := by simpa using congrArg List.length ek
    rw [this]
    exact q _ H SameH.rfl (.int _)
  · cases hg
/-! a tuple's part, the whole of it too -/
def gSlA (d : D) (lo hi : Option Int) : Option D := match d with
  | .tup xs => some (.tup (cutD xs lo hi))
  | _ => none
theorem gSlA_t {xs : List D} {lo hi : Option Int} : gSlA (.tup xs) lo hi = some (.tup (cutD xs lo hi)) := rfl
section
variable {N : Cn} {ta : TE} {tl th : TO} {fa : MM Pl} {fl fh : MM (Option Int)}
theorem se_slA (ha : SPl N ta fa) (hl : SO N tl fl) (hh : SO N th fh) : SE N (tSl (rSlA N.K) ta tl th) (m3 gSlA fa fl fh) :=
  se_sl ha hl hh fun H B v d lo hi z Q lv hb hg q => by
    cases d <;> first | (cases hg; done) | skip
    rename_i ds
    cases hg
    obtain ⟨p, xs, rfl, h1, r1⟩ := hb.tup
    refine ⟨p, xs, rfl, SqT.of (mask_le _ _ h1), fun c => ?_, fun c p0 hp => q _ _ (SameH.new hp) (.tup (mask_get ?_ upd_same) ((cut_rep r1 lo hi).up (mask_up (SameH.new hp))))⟩
    · refine q _ _ SameH.rfl ?_
      rw [r1.len] at c
      have e : cutD ds lo hi = ds := by
        unfold cutD
        rw [c.1, c.2, List.drop_zero, Nat.sub_zero, List.take_length]
      rw [e]
      exact .tup h1 r1
    · cases eb : B p0 with
      | false => rfl
      | true => exact absurd hp (lv p0 eb)
end

/-! ### M44. errors over any built-in error as values: made, asked, read; try with many named clauses -/
/-- what the written part says of an own error's class, whatever built-in error stands behind it -/
structure OexG (K : PySem.W.Frag) (C : Addr) : Prop where
  bas : ∃ (B : String) (nw ini : String) (tl : List Value), PySem.ExcBaseFacts B nw ini tl ∧ PySem.StoreFacts B tl "object.__setattr__" "object" ∧ PySem.W.excInitIn K C tl nw = true ∧ PySem.W.excOver K C tl = true
  dct : PySem.W.hasDictIn K C = true
  sat : PySem.W.findIn K (.ref C) "__setattr__" = some (some (.builtin "object.__setattr__"))
  exc : PySem.W.subIn K (.ref C) (.type "BaseException") = some true
  typ : PySem.W.typeIn K (.ref C) = some (.type "type")
  kep : PySem.W.keepIn K (.ref C) = true
section
open PySem.W Builtin Builtin.ObjectAttr
variable {P : Program} {w : World} {A : Around} {R : Result → Shared → Prop} {hp : Heap} {g : Array GenState} {d : Drawn} {t : Nat} {os : OsState}
theorem tkNone {K : PySem.W.Frag} {C : Addr} {f : Str} (h : findIn K (.ref C) f = some none) : takerIn K C f = some none := by
  unfold takerIn; rw [h]; rfl
/-- the first field of an error -/
theorem osaG1 {K : PySem.W.Frag} {C x t1 : Addr} {f : Str} {tk : Tok} {v : Value} (T : OexG K C) (X : K.In hp) (ho : hp.get? x = some (excObj C t1 none .none)) (hf : findIn K (.ref C) f = some none)
    (k : ∀ h' tk' dx, (∀ b o, b ≠ x → hp.get? b = some o → h'.get? b = some o) → hp.objs.size ≤ dx → dx ≠ x → h'.get? x = some (excObj C t1 (some dx) .none) → h'.Ns1 dx (fun y => if y = f then some v else none) → R (.ok (.ret .none)) ⟨h', g, d, tk', os⟩) :
    codeAny (model P w) A (.call (.builtin "object.__setattr__") ⟨[.ref x, .str f tk, v], []⟩) R ⟨hp, g, d, t, os⟩ := by
  obtain ⟨B, nw, ini, tl, _, SF, _, ov⟩ := T.bas
  obtain ⟨cd, hc, hd⟩ := any_some T.dct
  have lt : x < hp.objs.size := Heap.lt_size ho
  refine osa_openX (s := ⟨hp, g, d, t, os⟩) (od := none) SF X ⟨ho, rfl, rfl, trivial⟩ ov (tkNone hf) fun b => ?_
  refine wpAny_bind (wpAny_pure (wpAny_bind (instanceDict_exc (s := ⟨hp, g, d, t, os⟩) ho (looks_clsIn X hc) hd ?_)))
  show wpAny _ _ (storeInDict hp.objs.size (.str f tk) f v) _ _ _
  have n0 : hp.objs.size ≠ x := Nat.ne_of_gt lt
  refine HandSPX.store_in_new (hp := (hp.push (dictOf [] 0)).update x fun o => { o with dict := some hp.objs.size }) ?_ fun h' tk' n s => ?_
  · refine ⟨dictOf [] 0, #[], _, ?_, rfl, fun e he => absurd he (by simp), fun _ => rfl⟩
    rw [Heap.get?_update_ne _ _ _ _ n0]
    exact Heap.get?_push_at rfl rfl
  · have hx1 : ((hp.push (dictOf [] 0)).update x fun o => { o with dict := some hp.objs.size }).get? x = some (excObj C t1 (some hp.objs.size) .none) := Heap.get?_update_self _ (Heap.get?_push_of_some _ ho) rfl
    refine k h' tk' hp.objs.size (fun b o hb e => ?_) (Nat.le_refl _) n0 ?_ n
    · rw [s.2 b (Nat.ne_of_lt (Heap.lt_size e)), Heap.get?_update_ne _ _ _ _ hb]
      exact Heap.get?_push_of_some _ e
    · rw [s.2 x (Ne.symm n0)]
      exact hx1
/-- a further field -/
theorem osaG2 {K : PySem.W.Frag} {C x dx t1 : Addr} {f : Str} {tk : Tok} {v : Value} {m : Str → Option Value} {ns : List Str} (T : OexG K C) (X : K.In hp) (ho : hp.get? x = some (excObj C t1 (some dx) .none)) (hn : hp.Ns1 dx m) (hw : Within m ns) (hz : ns.length ≤ 1000) (hf : findIn K (.ref C) f = some none)
    (k : ∀ h' tk', (∀ b o, b ≠ dx → hp.get? b = some o → h'.get? b = some o) → h'.Ns1 dx (fun y => if y = f then some v else m y) → R (.ok (.ret .none)) ⟨h', g, d, tk', os⟩) :
    codeAny (model P w) A (.call (.builtin "object.__setattr__") ⟨[.ref x, .str f tk, v], []⟩) R ⟨hp, g, d, t, os⟩ := by
  obtain ⟨B, nw, ini, tl, _, SF, _, ov⟩ := T.bas
  obtain ⟨cd, hc, hd⟩ := any_some T.dct
  obtain ⟨od, _, _, hod, _, _⟩ := hn.count hw
  refine osa_openX (s := ⟨hp, g, d, t, os⟩) (od := some od) SF X ⟨ho, rfl, rfl, hod⟩ ov (tkNone hf) fun b => ?_
  refine wpAny_bind (wpAny_pure (wpAny_bind (wpAny_bind (wpAny_loadPart ho (wpAny_bind ((looks_clsIn X hc).here ?_))))))
  rw [hd]
  refine wpAny_pure (a := some dx) ?_
  exact OEX.store_in_old hn hw hz fun h' tk' n s => k h' tk' (fun b o hb e => (s.2 b hb).trans e) n
end
section
variable {X : Cx} {pins : List (Addr × Obj)} {σ : L2.St} {H : Hp} {s : Shared} {a C dx : Addr} {f : Str} {y : V} {u : Value} {fs : List (Str × V)} {Q : Unit → Shared → Prop} {E : Value → Shared → Prop} {A : Around}
theorem ostG1 (T : OexG X.K C) (I : Inv X pins σ H s) (e : H a = some (exo a C none)) (hf : PySem.W.findIn X.K (.ref C) f = some none) (ry : RelV y u)
    (k : ∀ dx s', H dx = none → dx ≠ a → Inv X pins σ (upd (upd H dx (exd dx [(f, y)])) a (exo a C (some dx))) s' → Q () s') : wpAny (model X.prog X.w) A (setAttr (.ref a) f u) Q E s := by
  obtain ⟨t1, ho⟩ := exo_at I.hok e
  obtain ⟨hp, g, d, t, os⟩ := s
  refine PySem.W.set_plain (od := none) I.kIn ⟨ho, rfl, rfl, trivial⟩ T.sat (osaG1 T I.kIn ho hf fun h' tk' dx kp dn dne hx hn => ?_)
  have h0 : H dx = none := I.hok.fresh dn
  have nA : ∀ {b : Addr}, H b = none → b ≠ a := fun n => (ne_of_none e n).symm
  have nD : ∀ {b : Addr} {o : Obj}, hp.get? b = some o → b ≠ dx := fun q z => absurd (Heap.lt_size q) (by rw [z]; exact Nat.not_lt.mpr dn)
  have U : Un X.fs [] H (upd (upd H dx (exd dx [(f, y)])) a (exo a C (some dx))) hp h' := by
    refine ⟨fun b o q n _ _ => kp b o (nA n) q, fun b o q n _ _ => ⟨o.slots, kp b o (nA n) q⟩, fun b o q n _ => ?_, fun b o q _ => ?_, fun b xs q => ?_, fun b o v q => ?_, fun b ps q => ?_⟩
    · rw [upd_ne (nA n), upd_ne (nD q)]; exact n
    · by_cases z : b = a
      · exact ⟨_, z ▸ hx⟩
      · exact ⟨o, kp b o z q⟩
    · rw [upd_ne (at_ne e q exo_tup), upd_ne (ne_of_none q h0)]; exact q
    · rw [upd_ne (at_ne e q exo_frz), upd_ne (ne_of_none q h0)]; exact q
    · exact ⟨#[], by rw [upd_ne (at_ne e q exo_tbl), upd_ne (ne_of_none q h0), q]; simp⟩
  refine k dx _ h0 dne (I.un (t' := tk') U fun b o q => ?_)
  by_cases z : b = a
  · subst z
    rw [upd_same] at q
    cases q
    exact exo_ok hx
  · rw [upd_ne z] at q
    by_cases z2 : b = dx
    · subst z2
      rw [upd_same] at q
      cases q
      exact exd_ok hn (relO_put (fs := []) ry fun _ => trivial)
    · rw [upd_ne z2] at q
      refine (I.hok b o q).stay (fun c v hc e' => kp c v ?_ e') (fun c hc => ?_) fun c xs hc => ?_
      · rcases hc with rfl | hc
        · exact z
        · exact at_ne e hc exo_own
      · rw [upd_ne (at_ne e hc exo_own), upd_ne (ne_of_none hc h0)]; exact hc
      · rw [upd_ne (at_ne e hc exo_tup), upd_ne (ne_of_none hc h0)]; exact hc
theorem ostG2 (T : OexG X.K C) (I : Inv X pins σ H s) (e : H a = some (exo a C (some dx))) (ed : H dx = some (exd dx fs)) (hl : fs.length ≤ 900) (hf : PySem.W.findIn X.K (.ref C) f = some none) (ry : RelV y u)
    (k : ∀ s', Inv X pins σ (upd H dx (exd dx ((f, y) :: fs))) s' → Q () s') : wpAny (model X.prog X.w) A (setAttr (.ref a) f u) Q E s := by
  obtain ⟨t1, ho⟩ := exo_at I.hok e
  obtain ⟨m, hn, rl⟩ := exd_at I.hok ed
  obtain ⟨hp, g, d, t, os⟩ := s
  obtain ⟨od, _, _, hod, _, _⟩ := hn.count (within_of rl)
  refine PySem.W.set_plain (od := some od) I.kIn ⟨ho, rfl, rfl, hod⟩ T.sat (osaG2 T I.kIn ho hn (within_of rl) (by rw [List.length_map]; omega) hf fun h' tk' kp n => ?_)
  have there : ∃ o, h'.get? dx = some o := by
    obtain ⟨o, _, _, q, _⟩ := n
    exact ⟨o, q⟩
  refine k _ (I.write (t' := tk') (x := dx) (e := dx) (o := exd dx ((f, y) :: fs)) ?_ (.inl rfl) kp there (exd_ok n (relO_put ry rl)))
  rw [ed]
  trivial
end
/-- self.f = e on an error that is being made -/
def tOstG (K : PySem.W.Frag) (f : Str) (to te : TE) : TS := fun D σ H => te σ H fun y G1 => to σ G1 fun x G2 => ∃ a C : Addr, x = .ref a ∧ OexG K C ∧ PySem.W.findIn K (.ref C) f = some none ∧
  ((G2 a = some (exo a C none) ∧ ∀ d1, G2 d1 = none → d1 ≠ a → D.nx σ (upd (upd G2 d1 (exd d1 [(f, y)])) a (exo a C (some d1)))) ∨
    ∃ (d1 : Addr) (gs : List (Str × V)), G2 a = some (exo a C (some d1)) ∧ G2 d1 = some (exd d1 gs) ∧ gs.length ≤ 900 ∧ D.nx σ (upd G2 d1 (exd d1 ((f, y) :: gs))))
theorem ps_ostG {X : Cx} {o e : Expr} {to te : TE} {f : Str} {p pos : Pos} (ho : PE X o to) (he : PE X e te) (hs : swapsWith e (some (.Attribute o f p)) pos.line X.env = pure false := by rfl) : PS X (.Assign [.Attribute o f p] e pos) (tOstG X.K f to te) := by
  refine ⟨fun pins s σ H D I h => plainObj_wpAny_Assign_Attribute (thn (he.run pins s σ H _ I h) fun v s1 ⟨y, H1, I1, r1, q1⟩ => thn (ho.run pins s1 σ H1 _ I1 q1) fun u s2 ⟨x, H2, I2, r2, a, C, ex, T, hf, q⟩ => ?_) hs⟩
  subst ex
  cases r2
  rcases q with ⟨ea, q⟩ | ⟨dx, fs, ea, ed, hl, q⟩
  · exact ostG1 T I2 ea hf r1 fun dx s' n ne J => ⟨σ, _, J, q dx n ne⟩
  · exact ostG2 T I2 ea ed hl hf r1 fun s' J => ⟨σ, _, J, q⟩
/-! making one: the class is called, its own __init__ runs -/
section
variable {X : Cx} {pins : List (Addr × Obj)} {σ : L2.St} {H1 : Hp} {C : Addr} {k : Nat} {sp : Sp}
theorem callG {us : List Value} {vs : List V} {Z : VK} {hp : Heap} {g : Array GenState} {dr : Drawn} {tk : Nat} {os : OsState} {Q : Value → Shared → Prop} (T : OexG X.K C) (c : ExIni X.prog X.w X.K X.mg X.base k C sp) (hr : Room (k + 1) X.A) (I : Inv X pins σ H1 ⟨hp, g, dr, tk, os⟩) (r : Vals vs us) (hl : vs.length ≤ 1000)
    (h : ∀ a, H1 a = none → sp (.ref a :: vs) (upd H1 a (exo a C none)) (fun u H2 => u = .non ∧ Z (.ref a) H2) (fun _ _ _ => False))
    (q : ∀ (a : Addr) (hp1 : Heap) (s' : Shared) (H2 : Hp), hp.objs.size ≤ a → (∀ b o, hp.get? b = some o → hp1.get? b = some o) → Inv X pins σ (upd H1 a (exo a C none)) ⟨hp1, g, dr, tk, os⟩ → Un (frs X.stack) [] (upd H1 a (exo a C none)) H2 hp1 s'.heap →
      HOk X.prog X.w H2 s'.heap → s'.os = os → AllBare s'.gens → Z (.ref a) H2 → Q (.ref a) s') : wpAny (model X.prog X.w) X.A (call (.ref C) us) Q X.xe ⟨hp, g, dr, tk, os⟩ := by
  obtain ⟨fI, fd, ps, iC, tI, F, b⟩ := c.ex
  obtain ⟨B, nw, ini, tl, FB, _, qi, _⟩ := T.bas
  obtain ⟨nm, N, qn, bs, bm, hd, sn, sub, ab, col, dd, k0, k1, k2, k3, k5, hC, hT⟩ := PySem.W.excInit_of I.kIn qi
  have h1 : H1 (hp.objs.size + 1) = none := I.hok.fresh (Nat.le_succ _)
  have hq := h _ h1
  have kp : ∀ b o, hp.get? b = some o → ((hp.push (PySem.W.kdv_tup us)).push (PySem.HandSPX.excO C hp.objs.size)).get? b = some o := fun b o e => Heap.get?_push_of_some _ (Heap.get?_push_of_some _ e)
  have at1 : ((hp.push (PySem.W.kdv_tup us)).push (PySem.HandSPX.excO C hp.objs.size)).get? (hp.objs.size + 1) = some (PySem.HandSPX.excO C hp.objs.size) := by heap_get
  have I2 := I.laid (t' := tk) (a := hp.objs.size + 1) (o := exo (hp.objs.size + 1) C none) kp (Nat.le_succ _) (exo_ok at1)
  have r2 : Vals (V.ref (hp.objs.size + 1) :: vs) (Value.ref (hp.objs.size + 1) :: us) := .cons rfl r
  have len : (Value.ref (hp.objs.size + 1) :: us).length = ps.length := by
    rw [← r2.length]
    exact F.len _ _ _ _ hq
  have bb := b _ (Value.ref (hp.objs.size + 1) :: us) I2.kIn (by rw [List.append_nil]; exact len)
  rw [List.append_nil] at bb
  have us1 : us.length ≤ sizeLine := by
    rw [← Paired.length r, sizeLine_eq]
    omega
  refine wpAny_call (PySem.HandSPX.call_own FB hT hC (PySem.W.looks_findIn I.kIn iC) (fun self => PySem.W.bind_fn I.kIn self tI) us1
    (codeAny_mono (F.run _ X.stack _ _ ⟨_, []⟩ _ _ _ _ (hr.make C us []) (I2.env0.make C us []) bb r2 hq) fun z s' hz => ?_))
  match z, hz with
  | .error _, hz => exact hz.elim
  | .ok (.ret u), ⟨v, H2, o2, b2, u2, k2, rv, ev, z⟩ =>
    subst ev
    exact ⟨rv, q _ _ s' H2 (Nat.le_succ _) kp I2 u2 k2 o2 b2 z⟩
  | .ok .next, hz => exact hz.elim
  | .ok .brk, hz => exact hz.elim
  | .ok .cont, hz => exact hz.elim
variable {x : Str} {e : Expr} {es : List Expr} {ta : TA} {p pos : Pos} {j : Nat}
/-- C(e, ..) as a value -/
def tMkG (C : Addr) (sp : Sp) (ta : TA) : TE := fun σ H Q => ta σ H fun vs H1 => vs.length ≤ 1000 ∧ ∀ a, H1 a = none → sp (.ref a :: vs) (upd H1 a (exo a C none)) (fun u H2 => u = .non ∧ Q (.ref a) H2) (fun _ _ _ => False)
theorem pe_mkG (T : OexG X.K C) (c : ExIni X.prog X.w X.K X.mg X.base k C sp) (hr : Room j X.A) (hk : k + 1 ≤ j) (hg : Gl X x) (hm : X.mg x = some (.ref C)) (ha : PA X (e :: es) ta) (hdb : (x == ("__debug__" : Str)) = false := by decide)
    (he : starEach (e :: es) X.env = (false, eval e X.env) :: starEach es X.env := by rfl) (hpl : (backTo pos (starEach es X.env)).any (·.1) = false := by rfl) : PE X (.Call (.Name x p) (e :: es) [] pos) (tMkG C sp ta) := by
  refine ⟨fun pins s σ H Q I h => wpAny_Call_Name_kw (ld_glob I hg hm ?_ hdb)⟩
  refine PySem.W.callWith_K (h₀ := X.base) I.ok.mod.kin T.kep (thn (ha.run pos pins s σ H _ I h) fun us s1 ⟨vs, H1, I1, r1, hl, q1⟩ => ⟨I1.kIn, ?_⟩) he hpl
  obtain ⟨hp, g, dr, tk, os⟩ := s1
  exact callG (Z := Q) T c (hr.mono hk) I1 r1 hl q1 fun a hp1 s' H2 _ _ I2 u2 k2 o2 b2 z => ⟨.ref a, H2, I2.call' (ch := []) o2 u2 k2 b2 (fun _ z => nomatch z), rfl, z⟩
/-- raise C(e, ..) -/
theorem pmk_mkG (T : OexG X.K C) (c : ExIni X.prog X.w X.K X.mg X.base k C sp) (hr : Room j X.A) (hk : k + 1 ≤ j) (hg : Gl X x) (hm : X.mg x = some (.ref C)) (ha : PA X (e :: es) ta) (hdb : (x == ("__debug__" : Str)) = false := by decide)
    (he : starEach (e :: es) X.env = (false, eval e X.env) :: starEach es X.env := by rfl) (hpl : (backTo pos (starEach es X.env)).any (·.1) = false := by rfl) : PMk X (.Call (.Name x p) (e :: es) [] pos) (tMkO C sp [] ta) := by
  refine fun pins s σ H Q I h => wpAny_Call_Name_kw (ld_glob I hg hm ?_ hdb)
  refine PySem.W.callWith_K (h₀ := X.base) I.ok.mod.kin T.kep (thn (ha.run pos pins s σ H _ I h) fun us s1 ⟨vs, H1, I1, r1, hl, q1⟩ => ⟨I1.kIn, ?_⟩) he hpl
  obtain ⟨hp, g, dr, tk, os⟩ := s1
  refine callG (Z := fun y H2 => ∃ a, y = .ref a ∧ ∃ (d : Addr) (fs : List (Str × V)), H2 a = some (exo a C (some d)) ∧ H2 d = some (exd d fs) ∧ H1 d = none ∧ Q (.ref C) (some d) (upd (del H2 a) d (.xd fs))) T c (hr.mono hk) I1 r1 hl (fun a ha => ?_) fun a hp1 s' H2 hsz kp I2 u2 k2 o2 b2 z => ?_
  · have q2 := q1 a ha
    rw [List.append_nil] at q2
    have e2 : ∀ {φ φ' : VK}, φ = φ' → sp (V.ref a :: vs) (upd H1 a (exo a C none)) φ (fun _ _ _ => False) → sp (V.ref a :: vs) (upd H1 a (exo a C none)) φ' (fun _ _ _ => False) := fun e h => e ▸ h
    refine e2 ?_ q2
    funext u H2
    refine propext (and_congr_right fun _ => ⟨fun h => ⟨a, rfl, h⟩, fun ⟨a', ea, h⟩ => ?_⟩)
    cases ea
    exact h
  · obtain ⟨a', ea, d, fs, e1, e2, e3, q2⟩ := z
    cases ea
    exact L2.mk_end (raises_own T.exc T.typ) I1 hsz kp u2 k2 o2 b2 e1 e2 e3 q2
/-- raise C(e, ..), any built-in error behind it -/
theorem ps_badG {pos2 : Pos} {W : WX} {fs : List Str} (hc : X.calm = true) (tk : Takes X W) (T : OexG X.K C) (hm : X.mg x = some (.ref C)) (c : ExIni X.prog X.w X.K X.mg X.base k C (spExN C fs)) (hr : Room j X.A) (hk : k + 1 ≤ j) (hg : Gl X x) (ha : PA X (e :: es) ta) (hdb : (x == ("__debug__" : Str)) = false := by decide)
    (he : starEach (e :: es) X.env = (false, eval e X.env) :: starEach es X.env := by rfl) (hpl : (backTo pos (starEach es X.env)).any (·.1) = false := by rfl) :
    PS X (.Raise (some (.Call (.Name x p) (e :: es) [] pos)) none pos2) (fun _ σ H => tMkO C (spExN C fs) [] ta σ H fun cls d H' => W cls d σ H') := ps_raise hc tk (pmk_mkG T c hr hk hg hm ha hdb he hpl)
/-- C(), C without own __init__, as a value -/
theorem pe_mk0 {tl : List Value} {B nw ini : String} (F : ExcBaseFacts B nw ini tl) (q : PySem.W.excIn X.K C tl nw = true) (hm : X.mg x = some (.ref C)) (kC : PySem.W.keepIn X.K (.ref C) = true) (hg : Gl X x) (hdb : (x == ("__debug__" : Str)) = false := by decide) :
    PE X (.Call (.Name x p) [] [] pos) (fun σ H Q => ∀ a, H a = none → Q (.ref a) (upd H a (ExO (.ref C) a))) := by
  refine ⟨fun pins s σ H Q I h => wpAny_Call_Name_kw (ld_glob I hg hm ?_ hdb)⟩
  refine PySem.W.callWith_K0 I.kIn kC ?_
  show wpAny _ _ (call (.ref C) []) _ _ _
  obtain ⟨bm, N, nm, qn, bs, hd, sn, sub, ab, col, dd, k0, k1, k2, k3, k5, mN, hC, hN, hni, T⟩ := exc_obj I.kIn q
  refine wpAny_call_exc_subT F T hC hN hni (fun h' a m => ?_) (by show 0 ≤ sizeLine; exact Nat.zero_le _)
  have h0 : H a = none := I.hok.gone m.new
  obtain ⟨t, ht, _, _⟩ := m.there
  exact ⟨.ref a, _, I.laidN m.keeps m.new h0 (exO_ok ht ⟨rfl, rfl⟩ rfl rfl rfl (show 4 < 6 by decide)), rfl, h a h0⟩
end
/-! what an error that stands in the heap answers -/
/-- at a: an error of the class at C, with its dict or without one -/
def ErrAt (H : Hp) (a C : Addr) : Prop := (∃ dx fs, H a = some (exo a C (some dx)) ∧ H dx = some (exd dx fs)) ∨ H a = some (ExO (.ref C) a)
/-- isinstance(e, c) -/
def rIsG (K : PySem.W.Frag) (cv : Value) : V → Hp → VK → Prop := fun x H Q => ∃ (a C : Addr) (b : Bool), x = .ref a ∧ ErrAt H a C ∧ ExcC K C ∧ PySem.W.kitOne K (.ref C) cv = some b ∧ Q (.bl b) H
/-- e.f -/
def rFdG (K : PySem.W.Frag) (f : Str) : V → Hp → VK → Prop := fun x H Q => ∃ (a C dx : Addr) (fs : List (Str × V)) (v : V), x = .ref a ∧ H a = some (exo a C (some dx)) ∧ H dx = some (exd dx fs) ∧ ExcC K C ∧ PySem.W.findIn K (.ref C) f = some none ∧ fs.lookup f = some v ∧ Q v H
section
variable {X : Cx} {pins : List (Addr × Obj)} {σ : L2.St} {H : Hp} {s : Shared} {a C dx : Addr} {fs : List (Str × V)}
theorem instG (I : Inv X pins σ H s) (e : H a = some (exo a C (some dx))) (ed : H dx = some (exd dx fs)) : ∃ (oe od : Obj) (mA : Str → Option Value), PySem.W.InstAt s.heap a oe C (some od) ∧ (∀ f, PySem.W.lookIn f od = some (mA f)) ∧ ∀ f, RelO (fs.lookup f) (mA f) := by
  obtain ⟨t1, ho⟩ := exo_at I.hok e
  obtain ⟨mA, hns, hr⟩ := exd_at I.hok ed
  obtain ⟨od, hd, hl⟩ := lookIn_ns hns
  exact ⟨_, od, mA, ⟨ho, rfl, rfl, hd⟩, hl, hr⟩
theorem instAt_err (I : Inv X pins σ H s) (e : ErrAt H a C) : ∃ (oe : Obj) (od : Option Obj), PySem.W.InstAt s.heap a oe C od := by
  rcases e with ⟨dx, fs, e, ed⟩ | e
  · obtain ⟨oe, od, _, J, _⟩ := instG I e ed
    exact ⟨oe, some od, J⟩
  · obtain ⟨⟨oe, vs, ho, hz, hd, _⟩, _, _⟩ := I.hok a _ e
    obtain ⟨oc, odt, oda, osl⟩ := oe
    obtain ⟨h1, h2⟩ := hz
    dsimp only at h1 h2 hd
    subst h1 h2 hd
    exact ⟨_, none, ho, rfl, rfl, trivial⟩
variable {e c : Expr} {te : TE} {p pos : Pos} {w : V} {cv : Value} {f : Str}
theorem pe_isG (hcv : ∀ u, RelV w u → u = cv) (hg : Gl X "isinstance") (hm : X.mg "isinstance" = none) (he : PE X e te) (hc : PE X c (tC w))
    (hs : starEach (e :: [c]) X.env = (false, eval e X.env) :: starEach [c] X.env := by rfl) (hpl : (backTo pos (starEach [c] X.env)).any (·.1) = false := by rfl) (hs2 : starEach (c :: []) X.env = (false, eval c X.env) :: starEach [] X.env := by rfl) :
    PE X (.Call (.Name "isinstance" p) [e, c] [] pos) (fun σ H Q => te σ H fun x H1 => rIsG X.K cv x H1 Q) := by
  refine ⟨fun pins s σ H Q I h => wpAny_Call_Name_kw (ld_blt I hg hm PyProof.Rows.Boot.«isinstance» ?_ (by decide) (by decide))⟩
  have ha : PA X [e, c] (tCons te (tCons (tC w) tNil)) := pa_cons he (pa_cons hc pa_nil hs2) hs
  refine PyProof.Rows.callWith_builtin1 (thn (ha.run pos pins s σ H (fun vs H1 => match vs with | [x, y] => rIsG X.K cv x H1 Q ∧ y = w | _ => False) I ?_) fun us s1 hh => ?_) hs hpl
  · show te σ H fun x H1 => rIsG X.K cv x H1 Q ∧ w = w
    simpa only [and_true] using h
  obtain ⟨vs, H1, I1, r1, hh⟩ := hh
  match vs, hh with
  | [x, y], ⟨⟨a, C, b, ex, ea, EC, ek, q⟩, ey⟩ => ?_
  subst ey ex
  cases r1 with
  | cons rx rr =>
    cases rr with
    | cons rt rr =>
      cases rr
      cases rx
      have ec := hcv _ rt
      subst ec
      obtain ⟨oe, od, J⟩ := instAt_err I1 ea
      have hcl : (PySem.W.clsIn X.K C).isSome = true := by
        obtain ⟨cd, hcd, _⟩ := PySem.W.any_some EC.hd
        rw [hcd]
        rfl
      exact PySem.W.kia_one (PySem.W.kitx_exc hcl EC.hg EC.hk EC.hs EC.ha EC.hn EC.ht EC.hm) I1.kIn J ek (fun z => nomatch z) fun tk => ⟨.bl b, H1, I1.kept (t' := tk) fun _ _ z => z, rfl, q⟩
theorem pe_fdG (he : PE X e te) (hb : attributeBase e f X.env (eval e X.env) = eval e X.env := by rfl) : PE X (.Attribute e f pos) (fun σ H Q => te σ H fun x H1 => rFdG X.K f x H1 Q) := by
  refine ⟨fun pins s σ H Q I h => attr_of hb (thn (he.run pins s σ H _ I h) fun u s1 hh => ?_)⟩
  obtain ⟨x, H1, I1, rx, a, C, dx, fs, v, rfl, ea, ed, EC, nf, el, q⟩ := hh
  cases rx
  obtain ⟨oe, od, mA, J, hl, hr⟩ := instG I1 ea ed
  obtain ⟨w, hw, rw'⟩ := RelO.some_of (v := v) (o := mA f) (by rw [← el]; exact hr f)
  exact HandSPX.exc_get I1.kIn J EC.hg EC.hk EC.hs (PySem.W.findObj_own EC.hd nf rfl (by rw [hl, hw])) (handed_of rw') ⟨v, H1, I1.tok _, rw', q⟩
end
/-! try with many named clauses, each of which the suite's errors may meet; one of them meets each -/
abbrev Cls := Value × Nat × (Addr → Value → Option Addr → TS)
def wAsM (K : PySem.W.Frag) (D : Ends) : List Cls → WX
  | [] => fun _ _ _ _ => False
  | (c, i, ts) :: r => wAs K c i ts (wAsM K D r) D
inductive HdAs (X : Cx) : List ExceptHandler → List Cls → Prop
  | nil : HdAs X [] []
  | cons {x n : Str} {c : Value} {i : Nat} {ts : Addr → Value → Option Addr → TS} {b : Stmt} {bs : List Stmt} {p1 p2 : Pos} {hs : List ExceptHandler} {l : List Cls} (hi : X.N[i]? = some n) (hk : X.env.kindOf n = some .local) (hc : Names X x c)
      (hsu : ∀ (a : Addr) (oe : Obj) (cls : Value) (d : Option Addr) (pn : List (Addr × Obj)), Zc cls d oe → (∃ vs, oe.data = .fields vs) → PSs (X.suite a ((a, oe) :: pn)) (b :: bs) (ts a cls d)) (r : HdAs X hs l) :
      HdAs X (.ExceptHandler (some (.Name x p1)) (some n) (b :: bs) p2 :: hs) ((c, i, ts) :: l)
theorem ps_try_asM {X : Cx} {body : List Stmt} {h0 : ExceptHandler} {hds : List ExceptHandler} {l : List Cls} {pos : Pos} {tb : WX → TS} (hs : X.stack = X.env :: X.outer) (hf : X.env.frame = some X.env.locals) (hN : X.N.Nodup)
    (hb : ∀ (W : WX) (pn : List (Addr × Obj)) (xe : Value → Shared → Prop), Takes (X.tr pn xe) W → PassesOwn (model X.prog X.w) X.A X.env xe → PSs (X.tr pn xe) body (tb W)) (hh : HdAs X (h0 :: hds) l) :
    PS X (.Try body (h0 :: hds) [] [] pos) (fun D σ H => tb (wAsM X.K D l) D σ H) := by
  refine ⟨fun pins s σ H D I h => wpAny_Try_except (wpAny_mono ((hb (wAsM X.K D l) (X.pn ++ pins) (fun e s1 => wpAny (model X.prog X.w) X.A (noteFrame e X.env) (fun _ s2 => wpAny (model X.prog X.w) X.A (setFlight e none)
    (fun _ s3 => wpAny (model X.prog X.w) X.A (handleBy e X.env (h0 :: hds)) (SP X pins D) X.xe s3) X.xe s2) X.xe s1) (fun u s' xx => ?_) PassesOwn.looking).run [] s σ H D (I.toTry _) h) (fun fl s1 q => ?_) fun _ _ z => z)⟩
  · have ok := I.ok
    have fr : X.A.frames = some (X.env :: X.outer) := ok.frames.trans (congrArg some hs)
    obtain ⟨a, B, sI, pins2, σ2, H2, cls, d, rfl, J0, nb, up, sky, na, os, ag, wish⟩ := xx
    have J := J0.ofTry (pins := pins) ok
    rw [hs] at sky
    refine Sky.land Zc.steady fr hf sky fun h3 L3 up3 => ?_
    have J3 : Inv X pins σ2 H2 { s' with heap := h3 } := J.landed nb L3.1 (up.trans up3) os ag
    obtain ⟨oe3, vs3, at3, z3, d3⟩ := L3.there
    have off : a ∉ frs (X.env :: X.outer) := fun hm => by
      obtain ⟨_, o', e', no⟩ := L3.2.2.1.mem hm
      rw [at3] at e'
      cases e'
      exact no _ d3
    have offL : a ≠ X.env.locals := fun z => off (List.mem_filterMap.mpr ⟨X.env, .head _, hf.trans (congrArg some z.symm)⟩)
    have offF : a ∉ X.fs := fun hm => by
      obtain ⟨e1, he1, q⟩ := List.mem_filterMap.mp hm
      exact off (List.mem_filterMap.mpr ⟨e1, .tail _ he1, q⟩)
    have each : ∀ {hs' : List ExceptHandler} {l' : List Cls}, HdAs X hs' l' → wAsM X.K D l' cls d σ2 H2 → wpAny (model X.prog X.w) X.A (handleBy (.ref a) X.env hs') (SP X pins D) X.xe { s' with heap := h3 } := by
      intro hs' l' hk
      induction hk with
      | nil => exact fun z => z.elim
      | @cons x n c i ts b bs p1 p2 hs2 l2 hi hkd hc hsu r ih =>
        rintro ⟨yes, m1, w1, w2⟩
        have LT : PySem.W.Looks (model X.prog X.w) h3 (typeOf (.ref a)) cls := fun A Q E s k q => wpAny_typeOf_ref (k _ _ at3) (z3.1.symm ▸ q)
        have LM := PySem.W.exm_one (M := model X.prog X.w) J3.kIn LT m1
        have S3 := J3.suite at3 d3 na offL offF
        have look : ∀ {Q E : Value → Shared → Prop}, Q c { s' with heap := h3 } → wpAny (model X.prog X.w) (X.A.mark (some (.ref a))) (eval (.Name x p1) X.env) Q E { s' with heap := h3 } := by
          intro Q E q
          obtain ⟨g1, g2, g3 | ⟨g3, g4, g5⟩⟩ := hc
          · exact ld_glob (X := X.suite a ((a, oe3) :: (X.pn ++ pins))) S3 g1 g3 q g2
          · exact ld_blt (X := X.suite a ((a, oe3) :: (X.pn ++ pins))) S3 g1 g3 g4 q g5 g2
        refine wpAny_handleBy_cons (codeAny_handlers_test (look (LM.here ?_))) (fun q => nomatch q)
        cases yes with
        | false => exact ih (w2 rfl)
        | true =>
          refine codeAny_handlers_suite_as (HandSPX.lands_againZ L3 fun h4 L4 up4 => ?_)
          have J4 : Inv X pins σ2 H2 { s' with heap := h4 } := J.landed nb L4.1 ((up.trans up3).trans up4) os ag
          obtain ⟨oe4, vs4, at4, z4, d4⟩ := L4.there
          refine store_ok (X := X.suite a ((a, oe4) :: (X.pn ++ pins))) (v := .ref a) (J4.suite at4 d4 na offL offF) hN hi (.inl hkd) rfl (fun s5 S5 => ?_) (.inr hkd)
          refine wpAny_mono ((hsu a oe4 cls d (X.pn ++ pins) z4 ⟨_, d4⟩).run [] s5 _ H2 _ S5 (w1 rfl a na)) (fun fl s6 q => ?_) (fun _ _ z => z.elim)
          have out : ∀ {σ6 : L2.St} {H6 : Hp} {Q : Shared → Prop}, Inv (X.suite a ((a, oe4) :: (X.pn ++ pins))) [] σ6 H6 s6 → (∀ s7, Inv X pins (σ6.set i none) H6 s7 → Q s7) →
              wpAny (model X.prog X.w) X.A (do bindName X.env n .none; unbindBehindTheSuite X.env n p2) (fun _ s7 => Q s7) X.xe s6 := fun S6 q => gone_ok (S6.unsuite ok) hN hi hkd q
          match fl, q with
          | .next, ⟨_, _, S6, q⟩ => exact out S6 fun _ J7 => ⟨_, _, J7, q⟩
          | .brk, ⟨_, _, S6, q⟩ => exact out S6 fun _ J7 => ⟨_, _, J7, q⟩
          | .cont, ⟨_, _, S6, q⟩ => exact out S6 fun _ J7 => ⟨_, _, J7, q⟩
          | .ret _, ⟨_, _, _, S6, rv, q⟩ => exact out S6 fun _ J7 => ⟨_, _, _, J7, rv, q⟩
    exact each hh wish
  · have ok := I.ok
    match fl, q with
    | .next, ⟨_, _, J, q⟩ => exact wpAny_execs_nil ⟨_, _, J.ofTry ok, q⟩
    | .brk, ⟨_, _, J, q⟩ => exact ⟨_, _, J.ofTry ok, q⟩
    | .cont, ⟨_, _, J, q⟩ => exact ⟨_, _, J.ofTry ok, q⟩
    | .ret _, ⟨_, _, _, J, rv, q⟩ => exact ⟨_, _, _, J.ofTry ok, rv, q⟩
/-! mirrors -/
def mMkG (c : Str) (flds : List Str) (fa : MM (List Pl)) : MM D := fun ρ => (fa ρ).bind fun x => (Rs.of (vals x.1)).bind fun ds => if ds.length = flds.length then .ok (.exn c (flds.zip ds).reverse, x.2) else .no
def gIsG (ks : Str → Option Bool) : D → Option D
  | .exn c _ => (ks c).map .bl
  | _ => none
def gFdG (tb : Str → Bool) (f : Str) : D → Option D
  | .exn c fs => if tb c = true then fs.lookup f else none
  | _ => none
section
variable {N : Cn} {ta : TA} {te : TE} {fa : MM (List Pl)} {C : Addr} {cn : Str} {flds : List Str}
theorem se_mkG (hf : flds.length ≤ 100) (hC : N.ca cn = C) (ha : SA N ta fa) : SE N (tMkG C (spExN C flds) ta) (mMkG cn flds fa) := by
  intro B ρ σ H Q I hp
  show ta σ H _
  refine Post.next back_E ha I hp fun vs ps ρ1 B1 H1 I1 s1 r1 q => ?_
  obtain ⟨ds, ed, q⟩ := q.opt
  obtain ⟨hl, q⟩ := q.iff
  have rr := vals_rep r1.1 ed
  have hl' : vs.length = flds.length := rr.len.trans hl
  refine ⟨by omega, fun a h0 => ⟨a, vs, rfl, hl', upd_same, fun dx hd ne => ⟨rfl, ?_⟩⟩⟩
  rw [upd_ne ne] at hd
  have up : SameH H1 (upd (upd (upd H1 a (exo a C none)) dx (exd dx (flds.zip vs).reverse)) a (exo a C (some dx))) := fun b o e => by
    rw [upd_ne (ne_of_none e h0), upd_ne (ne_of_none e hd), upd_ne (ne_of_none e h0)]; exact e
  subst hC
  refine q.ok (I1.grow up) (stp_grow up) (.exn (mask_get (I1.notB h0) upd_same) (mask_get (I1.notB hd) (by rw [upd_ne ne]; exact upd_same)) ?_ ?_)
  · rw [List.map_reverse, List.map_reverse, zip_keys hl', zip_keys hl]
  · rw [List.map_reverse, List.map_reverse, zip_vals hl', zip_vals hl]
    exact (rr.up (mask_up up)).rev
theorem se_mk0 (hC : N.ca cn = C) : SE N (fun _ H Q => ∀ a, H a = none → Q (.ref a) (upd H a (ExO (.ref C) a))) (mC (.exn cn [])) := by
  intro B ρ σ H Q I hp a h0
  subst hC
  exact hp.ok (I.grow (SameH.new h0)) (stp_grow (SameH.new h0)) (.exn0 (mask_get (I.notB h0) upd_same))
theorem bor_exn {H : Hp} {B : Addr → Bool} {v : V} {c : Str} {fs : List (Str × D)} (h : Bor N.K N.ca H B v (.exn c fs)) : Rep N.K N.ca (mask H B) v (.exn c fs) := by
  rcases h with h | ⟨a, o, rfl, e, c⟩
  · exact h
  · cases o <;> exact c.elim
theorem g_isG {cv : Value} {ks : Str → Option Bool} (hk : ∀ c b, ks c = some b → ExcC N.K (N.ca c) ∧ PySem.W.kitOne N.K (.ref (N.ca c)) cv = some b) : G1 N.K N.ca (rIsG N.K cv) (gIsG ks) := by
  intro H B v d z Q lv hb hg q
  cases d <;> first | (cases hg; done) | skip
  rename_i c fs
  obtain ⟨b, eb, rfl⟩ := Option.map_eq_some_iff.mp (show (ks c).map D.bl = some z from hg)
  obtain ⟨h1, h2⟩ := hk c b eb
  have hq := q (.bl b) H SameH.rfl (.bl b)
  cases bor_exn hb with
  | exn e1 e2 _ _ => exact ⟨_, _, b, rfl, .inl ⟨_, _, mask_le _ _ e1, mask_le _ _ e2⟩, h1, h2, hq⟩
  | exn0 e1 => exact ⟨_, _, b, rfl, .inr (mask_le _ _ e1), h1, h2, hq⟩
theorem g_fdG {f : Str} {tb : Str → Bool} (hk : ∀ c, tb c = true → ExcC N.K (N.ca c) ∧ PySem.W.findIn N.K (.ref (N.ca c)) f = some none) : G1 N.K N.ca (rFdG N.K f) (gFdG tb f) := by
  intro H B v d z Q lv hb hg q
  cases d <;> first | (cases hg; done) | skip
  rename_i c fs
  have hg : (if tb c = true then fs.lookup f else none) = some z := hg
  by_cases hc : tb c = true
  · rw [if_pos hc] at hg
    obtain ⟨h1, h2⟩ := hk c hc
    cases bor_exn hb with
    | exn e1 e2 e3 e4 =>
      obtain ⟨x, ex, rx⟩ := (look_rep (f := f) e3 e4).1 z hg
      exact ⟨_, _, _, _, x, rfl, mask_le _ _ e1, mask_le _ _ e2, h1, h2, ex, q x H SameH.rfl rx⟩
    | exn0 e1 => cases hg
  · rw [if_neg hc] at hg; cases hg
end
def HsOkM (N : Cn) (l : List Cls) (mh : Str → List (Str × D) → MS) : Prop :=
  ∀ (c : Str) (fs : List (Str × D)) (dx : Addr) (fv : List (Str × V)) (H' : Hp) (ρ : Env') (σ : L2.St) (W : Ends), Iv N N.B0 ρ σ H' → ρ.any ownS = false → H' dx = some (.xd fv) → fv.map (·.1) = fs.map (·.1) → RepA N.K N.ca (mask H' N.B0) (fv.map (·.2)) (fs.map (·.2)) →
    PostS N N.B0 H' W (mh c fs ρ) → wAsM N.K W l (.ref (N.ca c)) (some dx) σ H'
theorem ss_tryM {N : Cn} {t : TS} {tb : XK → TS} {mb : MS} {l : List Cls} {mh : Str → List (Str × D) → MS} (hb : ∀ EE H0 C B0, SS ⟨N.K, N.ca, H0, C, B0, EE⟩ (tb EE) mb) (hh : HsOkM N l mh) (ht : ∀ D σ H, t D σ H = tb (fun cls d H2 => wAsM N.K D l cls d σ H2) D σ H) : SS N t (sTryS mb mh) := by
  intro B ρ σ H W I hp
  rw [ht]
  unfold sTryS at hp
  by_cases hρ : ρ.any ownS = false
  · rw [if_pos hρ] at hp
    refine hb _ _ _ _ B ρ σ H W (I.toTry hρ _) ?_
    cases e : mb ρ with
    | no => rw [e] at hp; exact hp
    | bk ρ' => rw [e] at hp; exact fun σ' B' H' J s => hp σ' B' H' (I.ofTry hρ J) s
    | ct ρ' => rw [e] at hp; exact fun σ' B' H' J s => hp σ' B' H' (I.ofTry hρ J) s
    | nx ρ' => rw [e] at hp; exact fun σ' B' H' J s => hp σ' B' H' (I.ofTry hρ J) s
    | rt nw d ρ' =>
      rw [e] at hp
      cases nw with
      | false => exact fun v σ' B' H' J s r => hp v σ' B' H' (I.ofTry hρ J) s r
      | true =>
        refine fun v σ' B' H' J s r => hp v σ' B' H' (I.ofTry hρ J) s ?_
        obtain ⟨p, o, h1, h2, h3⟩ := r
        exact ⟨p, o, h1, I.no0 h2, h3⟩
    | er c fs =>
      rw [e] at hp
      have hp : PostS N B H W (mh c fs ρ) := hp
      show XOk _ c fs
      intro dx H' fv h0 hfr hx' hk hr
      have sH : SameH H H' := fun b o e => hfr b o (fun _ z => nomatch z) e
      have I2 := (I.grow sH).least hρ
      exact hh c fs dx fv H' ρ σ W I2 hρ hx' hk hr (PostS.from ((mask_up sH).tr (mask_sub fun x hx => I.bb x hx)) hp)
  · rw [if_neg hρ] at hp; exact hp.elim
/-! a list taken apart; str of an int; tables of facts -/
def lstD : D → Option (List D)
  | .lst ds | .lsq ds => some ds
  | _ => none
def gLp (n : Nat) (gs : MGs) : MG := fun d ρ => (lstD d).bind fun ds => if ds.length = n then gs ds ρ else none
theorem gLp_t {n : Nat} {gs : MGs} {ds : List D} {ρ : Env'} : gLp n gs (.lst ds) ρ = if ds.length = n then gs ds ρ else none := rfl
theorem sg_lst {N : Cn} {gs : TGs} {mgs : MGs} {ts : List Nat} {n : Nat} (h : SGs N ts gs mgs) : SG N ts (L2.gLst N.K n gs) (gLp n mgs) := by
  intro B ρ σ H v d Q I r q ⟨ρ', e⟩
  obtain ⟨ds, ed, e1⟩ := Option.bind_eq_some_iff.mp e
  have key : ∃ a xs, v = .ref a ∧ SqL N.K H a xs ∧ RepA N.K N.ca (mask H B) xs ds := by
    cases d <;> first | (cases ed; done) | skip
    · cases ed
      cases r with
      | lst h r => exact ⟨_, _, rfl, .inl (.inl (mask_le _ _ h)), r⟩
    · cases ed
      cases r with
      | lsq h r => exact ⟨_, _, rfl, sqL_up mask_le h, r⟩
  obtain ⟨a, xs, rfl, hx, rx⟩ := key
  by_cases hn : ds.length = n
  · rw [if_pos hn] at e1
    refine ⟨a, xs, rfl, hx, rx.len.trans hn, h B ρ σ H xs ds Q I rx (fun ρ2 e2 σ2 I2 => q ρ2 ?_ σ2 I2) ⟨ρ', e1⟩⟩
    unfold gLp
    rw [ed]
    exact (if_pos hn).trans e2
  · rw [if_neg hn] at e1; cases e1
def gStrI : List D → Option D
  | [.int i] => if i.natAbs.log2 < 1920 then some (.str (toString i : Str).cps.toList) else none
  | _ => none
def rStrI : List V → Hp → VK → Prop := fun xs H Q => ∃ i, xs = [.int i] ∧ i.natAbs.log2 < 1920 ∧ Q (.str (toString i)) H
theorem a_strI {K : PySem.W.Frag} {ca : Str → Addr} : GA K ca rStrI gStrI := by
  intro H B vs ds z Q lv hb hg q
  unfold gStrI at hg
  split at hg
  · rename_i i
    split at hg
    · rename_i hc
      cases hg
      obtain ⟨v, rfl, hv⟩ := bA1 hb
      refine ⟨i, by rw [hv.int], hc, q _ H SameH.rfl ?_⟩
      have := Rep.str (K := K) (ca := ca) (H := mask H B) (toString i : Str).cps.toList
      rw [S_tl] at this
      exact this
    · cases hg
  · cases hg
theorem cr_strI {X : Cx} : CallR X (.type "str") rStrI := call_str_int
theorem lookAll {P : Str → Bool → Prop} : ∀ {l : List (Str × Bool)}, (∀ p ∈ l, P p.1 p.2) → ∀ c b, l.lookup c = some b → P c b
  | [], _, c, b, h => by cases h
  | (x, y) :: l, hl, c, b, h => by
    rw [List.lookup_cons] at h
    cases e : c == x with
    | true =>
      rw [e] at h
      cases h
      rw [show c = x from by simpa using e]
      exact hl _ (.head _)
    | false =>
      rw [e] at h
      exact lookAll (fun p hp => hl p (.tail _ hp)) c b h
theorem ksOk {K : PySem.W.Frag} {ca : Str → Addr} {cv : Value} {l : List (Str × Bool)} {as : List (Addr × Bool)} (el : (l.map fun p => (ca p.1, p.2)) = as) (he : ∀ p ∈ l, ExcC K (ca p.1)) (hs : (as.all fun p => decide (PySem.W.kitOne K (.ref p.1) cv = some p.2)) = true) :
    ∀ c b, l.lookup c = some b → ExcC K (ca c) ∧ PySem.W.kitOne K (.ref (ca c)) cv = some b := by
  subst el
  exact lookAll (P := fun c b => ExcC K (ca c) ∧ PySem.W.kitOne K (.ref (ca c)) cv = some b) fun p hp => ⟨he p hp, of_decide_eq_true (List.all_eq_true.mp hs _ (List.mem_map_of_mem hp))⟩


structure Addrs where
  C_EarlyError : Addr
  C_BadText : Addr
  C_TooMany : Addr
  C_Twice : Addr
  C_NoClass : Addr
  C_NoOrder : Addr
  C_NotABase : Addr
  C_Final : Addr
  C_NotChained : Addr
  C_NotLawful : Addr
  C_BadKey : Addr
  C_BadName : Addr
  C_BadOrder : Addr
  C_BadDeed : Addr
  C_BadLimit : Addr
  C_Far : Addr
  C_Gap : Addr
  C_Long : Addr
  C_NoObject : Addr
  C_NoEnd : Addr
structure Txt (K : PySem.W.Frag) (mg : Str → Option Value) (Z : Addrs) : Prop where
  b_LookupError : mg "LookupError" = none
  b_RuntimeError : mg "RuntimeError" = none
  b_ValueError : mg "ValueError" = none
  b_abs : mg "abs" = none
  b_enumerate : mg "enumerate" = none
  b_int : mg "int" = none
  b_isinstance : mg "isinstance" = none
  b_len : mg "len" = none
  b_max : mg "max" = none
  b_min : mg "min" = none
  b_range : mg "range" = none
  b_repr : mg "repr" = none
  b_str : mg "str" = none
  k_EarlyError : mg "EarlyError" = some (.ref Z.C_EarlyError)
  k_BadText : mg "BadText" = some (.ref Z.C_BadText)
  ec_BadText : ExcC K Z.C_BadText
  y_BadText : OexG K Z.C_BadText
  n_BadText_at : PySem.W.findIn K (.ref Z.C_BadText) "at" = some none
  k_TooMany : mg "TooMany" = some (.ref Z.C_TooMany)
  ec_TooMany : ExcC K Z.C_TooMany
  y_TooMany : OexG K Z.C_TooMany
  n_TooMany_what : PySem.W.findIn K (.ref Z.C_TooMany) "what" = some none
  k_Twice : mg "Twice" = some (.ref Z.C_Twice)
  ec_Twice : ExcC K Z.C_Twice
  y_Twice : OexG K Z.C_Twice
  n_Twice_name : PySem.W.findIn K (.ref Z.C_Twice) "name" = some none
  k_NoClass : mg "NoClass" = some (.ref Z.C_NoClass)
  ec_NoClass : ExcC K Z.C_NoClass
  y_NoClass : OexG K Z.C_NoClass
  n_NoClass_name : PySem.W.findIn K (.ref Z.C_NoClass) "name" = some none
  k_NoOrder : mg "NoOrder" = some (.ref Z.C_NoOrder)
  ec_NoOrder : ExcC K Z.C_NoOrder
  y_NoOrder : OexG K Z.C_NoOrder
  n_NoOrder_name : PySem.W.findIn K (.ref Z.C_NoOrder) "name" = some none
  k_NotABase : mg "NotABase" = some (.ref Z.C_NotABase)
  ec_NotABase : ExcC K Z.C_NotABase
  y_NotABase : OexG K Z.C_NotABase
  n_NotABase_owner : PySem.W.findIn K (.ref Z.C_NotABase) "owner" = some none
  n_NotABase_key : PySem.W.findIn K (.ref Z.C_NotABase) "key" = some none
  n_NotABase_path : PySem.W.findIn K (.ref Z.C_NotABase) "path" = some none
  k_Final : mg "Final" = some (.ref Z.C_Final)
  ec_Final : ExcC K Z.C_Final
  y_Final : OexG K Z.C_Final
  n_Final_name : PySem.W.findIn K (.ref Z.C_Final) "name" = some none
  n_Final_key : PySem.W.findIn K (.ref Z.C_Final) "key" = some none
  k_NotChained : mg "NotChained" = some (.ref Z.C_NotChained)
  ec_NotChained : ExcC K Z.C_NotChained
  y_NotChained : OexG K Z.C_NotChained
  n_NotChained_name : PySem.W.findIn K (.ref Z.C_NotChained) "name" = some none
  n_NotChained_key : PySem.W.findIn K (.ref Z.C_NotChained) "key" = some none
  k_NotLawful : mg "NotLawful" = some (.ref Z.C_NotLawful)
  ec_NotLawful : ExcC K Z.C_NotLawful
  y_NotLawful : OexG K Z.C_NotLawful
  n_NotLawful_owner : PySem.W.findIn K (.ref Z.C_NotLawful) "owner" = some none
  n_NotLawful_key : PySem.W.findIn K (.ref Z.C_NotLawful) "key" = some none
  n_NotLawful_path : PySem.W.findIn K (.ref Z.C_NotLawful) "path" = some none
  k_BadKey : mg "BadKey" = some (.ref Z.C_BadKey)
  ec_BadKey : ExcC K Z.C_BadKey
  y_BadKey : OexG K Z.C_BadKey
  n_BadKey_key : PySem.W.findIn K (.ref Z.C_BadKey) "key" = some none
  k_BadName : mg "BadName" = some (.ref Z.C_BadName)
  ec_BadName : ExcC K Z.C_BadName
  y_BadName : OexG K Z.C_BadName
  n_BadName_name : PySem.W.findIn K (.ref Z.C_BadName) "name" = some none
  k_BadOrder : mg "BadOrder" = some (.ref Z.C_BadOrder)
  ec_BadOrder : ExcC K Z.C_BadOrder
  y_BadOrder : OexG K Z.C_BadOrder
  n_BadOrder_value : PySem.W.findIn K (.ref Z.C_BadOrder) "value" = some none
  k_BadDeed : mg "BadDeed" = some (.ref Z.C_BadDeed)
  ec_BadDeed : ExcC K Z.C_BadDeed
  y_BadDeed : OexG K Z.C_BadDeed
  n_BadDeed_at : PySem.W.findIn K (.ref Z.C_BadDeed) "at" = some none
  k_BadLimit : mg "BadLimit" = some (.ref Z.C_BadLimit)
  ec_BadLimit : ExcC K Z.C_BadLimit
  y_BadLimit : OexG K Z.C_BadLimit
  n_BadLimit_value : PySem.W.findIn K (.ref Z.C_BadLimit) "value" = some none
  k_Far : mg "Far" = some (.ref Z.C_Far)
  ec_Far : ExcC K Z.C_Far
  y_Far : OexG K Z.C_Far
  n_Far_steps : PySem.W.findIn K (.ref Z.C_Far) "steps" = some none
  k_Gap : mg "Gap" = some (.ref Z.C_Gap)
  ec_Gap : ExcC K Z.C_Gap
  y_Gap : OexG K Z.C_Gap
  n_Gap_name : PySem.W.findIn K (.ref Z.C_Gap) "name" = some none
  n_Gap_owner : PySem.W.findIn K (.ref Z.C_Gap) "owner" = some none
  n_Gap_key : PySem.W.findIn K (.ref Z.C_Gap) "key" = some none
  n_Gap_path : PySem.W.findIn K (.ref Z.C_Gap) "path" = some none
  k_Long : mg "Long" = some (.ref Z.C_Long)
  ec_Long : ExcC K Z.C_Long
  y_Long : OexG K Z.C_Long
  n_Long_most : PySem.W.findIn K (.ref Z.C_Long) "most" = some none
  k_NoObject : mg "NoObject" = some (.ref Z.C_NoObject)
  ec_NoObject : ExcC K Z.C_NoObject
  q_NoObject : PySem.W.excIn K Z.C_NoObject [.type "RuntimeError", .type "Exception", .type "BaseException", .type "object"] "RuntimeError.__new__" = true
  p_NoObject : PySem.W.keepIn K (.ref Z.C_NoObject) = true
  k_NoEnd : mg "NoEnd" = some (.ref Z.C_NoEnd)
  ec_NoEnd : ExcC K Z.C_NoEnd
  y_NoEnd : OexG K Z.C_NoEnd
  n_NoEnd_end : PySem.W.findIn K (.ref Z.C_NoEnd) "end" = some none
  is_BadText : (([(Z.C_BadText, true), (Z.C_TooMany, false), (Z.C_Twice, false), (Z.C_NoClass, false), (Z.C_NoOrder, false), (Z.C_NotABase, false), (Z.C_Final, false), (Z.C_NotChained, false), (Z.C_NotLawful, false), (Z.C_BadKey, false), (Z.C_BadName, false), (Z.C_BadOrder, false), (Z.C_BadDeed, false), (Z.C_BadLimit, false), (Z.C_Far, false), (Z.C_Gap, false), (Z.C_Long, false), (Z.C_NoObject, false), (Z.C_NoEnd, false)] : List (Addr × Bool)).all fun p => decide (PySem.W.kitOne K (.ref p.1) (.ref Z.C_BadText) = some p.2)) = true
  is_TooMany : (([(Z.C_BadText, false), (Z.C_TooMany, true), (Z.C_Twice, false), (Z.C_NoClass, false), (Z.C_NoOrder, false), (Z.C_NotABase, false), (Z.C_Final, false), (Z.C_NotChained, false), (Z.C_NotLawful, false), (Z.C_BadKey, false), (Z.C_BadName, false), (Z.C_BadOrder, false), (Z.C_BadDeed, false), (Z.C_BadLimit, false), (Z.C_Far, false), (Z.C_Gap, false), (Z.C_Long, false), (Z.C_NoObject, false), (Z.C_NoEnd, false)] : List (Addr × Bool)).all fun p => decide (PySem.W.kitOne K (.ref p.1) (.ref Z.C_TooMany) = some p.2)) = true
  is_Twice : (([(Z.C_BadText, false), (Z.C_TooMany, false), (Z.C_Twice, true), (Z.C_NoClass, false), (Z.C_NoOrder, false), (Z.C_NotABase, false), (Z.C_Final, false), (Z.C_NotChained, false), (Z.C_NotLawful, false), (Z.C_BadKey, false), (Z.C_BadName, false), (Z.C_BadOrder, false), (Z.C_BadDeed, false), (Z.C_BadLimit, false), (Z.C_Far, false), (Z.C_Gap, false), (Z.C_Long, false), (Z.C_NoObject, false), (Z.C_NoEnd, false)] : List (Addr × Bool)).all fun p => decide (PySem.W.kitOne K (.ref p.1) (.ref Z.C_Twice) = some p.2)) = true
  is_NoClass : (([(Z.C_BadText, false), (Z.C_TooMany, false), (Z.C_Twice, false), (Z.C_NoClass, true), (Z.C_NoOrder, false), (Z.C_NotABase, false), (Z.C_Final, false), (Z.C_NotChained, false), (Z.C_NotLawful, false), (Z.C_BadKey, false), (Z.C_BadName, false), (Z.C_BadOrder, false), (Z.C_BadDeed, false), (Z.C_BadLimit, false), (Z.C_Far, false), (Z.C_Gap, false), (Z.C_Long, false), (Z.C_NoObject, false), (Z.C_NoEnd, false)] : List (Addr × Bool)).all fun p => decide (PySem.W.kitOne K (.ref p.1) (.ref Z.C_NoClass) = some p.2)) = true
  is_NoOrder : (([(Z.C_BadText, false), (Z.C_TooMany, false), (Z.C_Twice, false), (Z.C_NoClass, false), (Z.C_NoOrder, true), (Z.C_NotABase, false), (Z.C_Final, false), (Z.C_NotChained, false), (Z.C_NotLawful, false), (Z.C_BadKey, false), (Z.C_BadName, false), (Z.C_BadOrder, false), (Z.C_BadDeed, false), (Z.C_BadLimit, false), (Z.C_Far, false), (Z.C_Gap, false), (Z.C_Long, false), (Z.C_NoObject, false), (Z.C_NoEnd, false)] : List (Addr × Bool)).all fun p => decide (PySem.W.kitOne K (.ref p.1) (.ref Z.C_NoOrder) = some p.2)) = true
  is_NotABase : (([(Z.C_BadText, false), (Z.C_TooMany, false), (Z.C_Twice, false), (Z.C_NoClass, false), (Z.C_NoOrder, false), (Z.C_NotABase, true), (Z.C_Final, false), (Z.C_NotChained, false), (Z.C_NotLawful, false), (Z.C_BadKey, false), (Z.C_BadName, false), (Z.C_BadOrder, false), (Z.C_BadDeed, false), (Z.C_BadLimit, false), (Z.C_Far, false), (Z.C_Gap, false), (Z.C_Long, false), (Z.C_NoObject, false), (Z.C_NoEnd, false)] : List (Addr × Bool)).all fun p => decide (PySem.W.kitOne K (.ref p.1) (.ref Z.C_NotABase) = some p.2)) = true
  is_Final : (([(Z.C_BadText, false), (Z.C_TooMany, false), (Z.C_Twice, false), (Z.C_NoClass, false), (Z.C_NoOrder, false), (Z.C_NotABase, false), (Z.C_Final, true), (Z.C_NotChained, false), (Z.C_NotLawful, false), (Z.C_BadKey, false), (Z.C_BadName, false), (Z.C_BadOrder, false), (Z.C_BadDeed, false), (Z.C_BadLimit, false), (Z.C_Far, false), (Z.C_Gap, false), (Z.C_Long, false), (Z.C_NoObject, false), (Z.C_NoEnd, false)] : List (Addr × Bool)).all fun p => decide (PySem.W.kitOne K (.ref p.1) (.ref Z.C_Final) = some p.2)) = true
  is_NotChained : (([(Z.C_BadText, false), (Z.C_TooMany, false), (Z.C_Twice, false), (Z.C_NoClass, false), (Z.C_NoOrder, false), (Z.C_NotABase, false), (Z.C_Final, false), (Z.C_NotChained, true), (Z.C_NotLawful, false), (Z.C_BadKey, false), (Z.C_BadName, false), (Z.C_BadOrder, false), (Z.C_BadDeed, false), (Z.C_BadLimit, false), (Z.C_Far, false), (Z.C_Gap, false), (Z.C_Long, false), (Z.C_NoObject, false), (Z.C_NoEnd, false)] : List (Addr × Bool)).all fun p => decide (PySem.W.kitOne K (.ref p.1) (.ref Z.C_NotChained) = some p.2)) = true
  is_NotLawful : (([(Z.C_BadText, false), (Z.C_TooMany, false), (Z.C_Twice, false), (Z.C_NoClass, false), (Z.C_NoOrder, false), (Z.C_NotABase, false), (Z.C_Final, false), (Z.C_NotChained, false), (Z.C_NotLawful, true), (Z.C_BadKey, false), (Z.C_BadName, false), (Z.C_BadOrder, false), (Z.C_BadDeed, false), (Z.C_BadLimit, false), (Z.C_Far, false), (Z.C_Gap, false), (Z.C_Long, false), (Z.C_NoObject, false), (Z.C_NoEnd, false)] : List (Addr × Bool)).all fun p => decide (PySem.W.kitOne K (.ref p.1) (.ref Z.C_NotLawful) = some p.2)) = true
  is_BadKey : (([(Z.C_BadText, false), (Z.C_TooMany, false), (Z.C_Twice, false), (Z.C_NoClass, false), (Z.C_NoOrder, false), (Z.C_NotABase, false), (Z.C_Final, false), (Z.C_NotChained, false), (Z.C_NotLawful, false), (Z.C_BadKey, true), (Z.C_BadName, false), (Z.C_BadOrder, false), (Z.C_BadDeed, false), (Z.C_BadLimit, false), (Z.C_Far, false), (Z.C_Gap, false), (Z.C_Long, false), (Z.C_NoObject, false), (Z.C_NoEnd, false)] : List (Addr × Bool)).all fun p => decide (PySem.W.kitOne K (.ref p.1) (.ref Z.C_BadKey) = some p.2)) = true
  is_BadName : (([(Z.C_BadText, false), (Z.C_TooMany, false), (Z.C_Twice, false), (Z.C_NoClass, false), (Z.C_NoOrder, false), (Z.C_NotABase, false), (Z.C_Final, false), (Z.C_NotChained, false), (Z.C_NotLawful, false), (Z.C_BadKey, false), (Z.C_BadName, true), (Z.C_BadOrder, false), (Z.C_BadDeed, false), (Z.C_BadLimit, false), (Z.C_Far, false), (Z.C_Gap, false), (Z.C_Long, false), (Z.C_NoObject, false), (Z.C_NoEnd, false)] : List (Addr × Bool)).all fun p => decide (PySem.W.kitOne K (.ref p.1) (.ref Z.C_BadName) = some p.2)) = true
  is_BadOrder : (([(Z.C_BadText, false), (Z.C_TooMany, false), (Z.C_Twice, false), (Z.C_NoClass, false), (Z.C_NoOrder, false), (Z.C_NotABase, false), (Z.C_Final, false), (Z.C_NotChained, false), (Z.C_NotLawful, false), (Z.C_BadKey, false), (Z.C_BadName, false), (Z.C_BadOrder, true), (Z.C_BadDeed, false), (Z.C_BadLimit, false), (Z.C_Far, false), (Z.C_Gap, false), (Z.C_Long, false), (Z.C_NoObject, false), (Z.C_NoEnd, false)] : List (Addr × Bool)).all fun p => decide (PySem.W.kitOne K (.ref p.1) (.ref Z.C_BadOrder) = some p.2)) = true
  is_BadDeed : (([(Z.C_BadText, false), (Z.C_TooMany, false), (Z.C_Twice, false), (Z.C_NoClass, false), (Z.C_NoOrder, false), (Z.C_NotABase, false), (Z.C_Final, false), (Z.C_NotChained, false), (Z.C_NotLawful, false), (Z.C_BadKey, false), (Z.C_BadName, false), (Z.C_BadOrder, false), (Z.C_BadDeed, true), (Z.C_BadLimit, false), (Z.C_Far, false), (Z.C_Gap, false), (Z.C_Long, false), (Z.C_NoObject, false), (Z.C_NoEnd, false)] : List (Addr × Bool)).all fun p => decide (PySem.W.kitOne K (.ref p.1) (.ref Z.C_BadDeed) = some p.2)) = true
  is_BadLimit : (([(Z.C_BadText, false), (Z.C_TooMany, false), (Z.C_Twice, false), (Z.C_NoClass, false), (Z.C_NoOrder, false), (Z.C_NotABase, false), (Z.C_Final, false), (Z.C_NotChained, false), (Z.C_NotLawful, false), (Z.C_BadKey, false), (Z.C_BadName, false), (Z.C_BadOrder, false), (Z.C_BadDeed, false), (Z.C_BadLimit, true), (Z.C_Far, false), (Z.C_Gap, false), (Z.C_Long, false), (Z.C_NoObject, false), (Z.C_NoEnd, false)] : List (Addr × Bool)).all fun p => decide (PySem.W.kitOne K (.ref p.1) (.ref Z.C_BadLimit) = some p.2)) = true
  is_Far : (([(Z.C_BadText, false), (Z.C_TooMany, false), (Z.C_Twice, false), (Z.C_NoClass, false), (Z.C_NoOrder, false), (Z.C_NotABase, false), (Z.C_Final, false), (Z.C_NotChained, false), (Z.C_NotLawful, false), (Z.C_BadKey, false), (Z.C_BadName, false), (Z.C_BadOrder, false), (Z.C_BadDeed, false), (Z.C_BadLimit, false), (Z.C_Far, true), (Z.C_Gap, false), (Z.C_Long, false), (Z.C_NoObject, false), (Z.C_NoEnd, false)] : List (Addr × Bool)).all fun p => decide (PySem.W.kitOne K (.ref p.1) (.ref Z.C_Far) = some p.2)) = true
  is_Gap : (([(Z.C_BadText, false), (Z.C_TooMany, false), (Z.C_Twice, false), (Z.C_NoClass, false), (Z.C_NoOrder, false), (Z.C_NotABase, false), (Z.C_Final, false), (Z.C_NotChained, false), (Z.C_NotLawful, false), (Z.C_BadKey, false), (Z.C_BadName, false), (Z.C_BadOrder, false), (Z.C_BadDeed, false), (Z.C_BadLimit, false), (Z.C_Far, false), (Z.C_Gap, true), (Z.C_Long, false), (Z.C_NoObject, false), (Z.C_NoEnd, false)] : List (Addr × Bool)).all fun p => decide (PySem.W.kitOne K (.ref p.1) (.ref Z.C_Gap) = some p.2)) = true
  is_Long : (([(Z.C_BadText, false), (Z.C_TooMany, false), (Z.C_Twice, false), (Z.C_NoClass, false), (Z.C_NoOrder, false), (Z.C_NotABase, false), (Z.C_Final, false), (Z.C_NotChained, false), (Z.C_NotLawful, false), (Z.C_BadKey, false), (Z.C_BadName, false), (Z.C_BadOrder, false), (Z.C_BadDeed, false), (Z.C_BadLimit, false), (Z.C_Far, false), (Z.C_Gap, false), (Z.C_Long, true), (Z.C_NoObject, false), (Z.C_NoEnd, false)] : List (Addr × Bool)).all fun p => decide (PySem.W.kitOne K (.ref p.1) (.ref Z.C_Long) = some p.2)) = true
  is_NoObject : (([(Z.C_BadText, false), (Z.C_TooMany, false), (Z.C_Twice, false), (Z.C_NoClass, false), (Z.C_NoOrder, false), (Z.C_NotABase, false), (Z.C_Final, false), (Z.C_NotChained, false), (Z.C_NotLawful, false), (Z.C_BadKey, false), (Z.C_BadName, false), (Z.C_BadOrder, false), (Z.C_BadDeed, false), (Z.C_BadLimit, false), (Z.C_Far, false), (Z.C_Gap, false), (Z.C_Long, false), (Z.C_NoObject, true), (Z.C_NoEnd, false)] : List (Addr × Bool)).all fun p => decide (PySem.W.kitOne K (.ref p.1) (.ref Z.C_NoObject) = some p.2)) = true
  is_NoEnd : (([(Z.C_BadText, false), (Z.C_TooMany, false), (Z.C_Twice, false), (Z.C_NoClass, false), (Z.C_NoOrder, false), (Z.C_NotABase, false), (Z.C_Final, false), (Z.C_NotChained, false), (Z.C_NotLawful, false), (Z.C_BadKey, false), (Z.C_BadName, false), (Z.C_BadOrder, false), (Z.C_BadDeed, false), (Z.C_BadLimit, false), (Z.C_Far, false), (Z.C_Gap, false), (Z.C_Long, false), (Z.C_NoObject, false), (Z.C_NoEnd, true)] : List (Addr × Bool)).all fun p => decide (PySem.W.kitOne K (.ref p.1) (.ref Z.C_NoEnd) = some p.2)) = true
  is_EarlyError : (([(Z.C_BadText, true), (Z.C_TooMany, true), (Z.C_Twice, true), (Z.C_NoClass, true), (Z.C_NoOrder, true), (Z.C_NotABase, true), (Z.C_Final, true), (Z.C_NotChained, true), (Z.C_NotLawful, true), (Z.C_BadKey, true), (Z.C_BadName, true), (Z.C_BadOrder, true), (Z.C_BadDeed, true), (Z.C_BadLimit, true), (Z.C_Far, true), (Z.C_Gap, false), (Z.C_Long, false), (Z.C_NoObject, false), (Z.C_NoEnd, false)] : List (Addr × Bool)).all fun p => decide (PySem.W.kitOne K (.ref p.1) (.ref Z.C_EarlyError) = some p.2)) = true
  is_ValueError : (([(Z.C_BadText, true), (Z.C_TooMany, true), (Z.C_Twice, true), (Z.C_NoClass, true), (Z.C_NoOrder, true), (Z.C_NotABase, true), (Z.C_Final, true), (Z.C_NotChained, true), (Z.C_NotLawful, true), (Z.C_BadKey, true), (Z.C_BadName, true), (Z.C_BadOrder, true), (Z.C_BadDeed, true), (Z.C_BadLimit, true), (Z.C_Far, true), (Z.C_Gap, false), (Z.C_Long, false), (Z.C_NoObject, false), (Z.C_NoEnd, false)] : List (Addr × Bool)).all fun p => decide (PySem.W.kitOne K (.ref p.1) (.type "ValueError") = some p.2)) = true
  is_RuntimeError : (([(Z.C_BadText, false), (Z.C_TooMany, false), (Z.C_Twice, false), (Z.C_NoClass, false), (Z.C_NoOrder, false), (Z.C_NotABase, false), (Z.C_Final, false), (Z.C_NotChained, false), (Z.C_NotLawful, false), (Z.C_BadKey, false), (Z.C_BadName, false), (Z.C_BadOrder, false), (Z.C_BadDeed, false), (Z.C_BadLimit, false), (Z.C_Far, false), (Z.C_Gap, true), (Z.C_Long, true), (Z.C_NoObject, true), (Z.C_NoEnd, false)] : List (Addr × Bool)).all fun p => decide (PySem.W.kitOne K (.ref p.1) (.type "RuntimeError") = some p.2)) = true
  is_LookupError : (([(Z.C_BadText, false), (Z.C_TooMany, false), (Z.C_Twice, false), (Z.C_NoClass, false), (Z.C_NoOrder, false), (Z.C_NotABase, false), (Z.C_Final, false), (Z.C_NotChained, false), (Z.C_NotLawful, false), (Z.C_BadKey, false), (Z.C_BadName, false), (Z.C_BadOrder, false), (Z.C_BadDeed, false), (Z.C_BadLimit, false), (Z.C_Far, false), (Z.C_Gap, false), (Z.C_Long, false), (Z.C_NoObject, false), (Z.C_NoEnd, true)] : List (Addr × Bool)).all fun p => decide (PySem.W.kitOne K (.ref p.1) (.type "LookupError") = some p.2)) = true
  em_Final_Final : PySem.W.exmOne K (.ref Z.C_Final) (.ref Z.C_Final) = some true
  em_NotChained_Final : PySem.W.exmOne K (.ref Z.C_NotChained) (.ref Z.C_Final) = some false
  em_NotChained_NotChained : PySem.W.exmOne K (.ref Z.C_NotChained) (.ref Z.C_NotChained) = some true
  em_Gap_Final : PySem.W.exmOne K (.ref Z.C_Gap) (.ref Z.C_Final) = some false
  em_Gap_NotChained : PySem.W.exmOne K (.ref Z.C_Gap) (.ref Z.C_NotChained) = some false
  em_Gap_Gap : PySem.W.exmOne K (.ref Z.C_Gap) (.ref Z.C_Gap) = some true
  em_NoEnd_Final : PySem.W.exmOne K (.ref Z.C_NoEnd) (.ref Z.C_Final) = some false
  em_NoEnd_NotChained : PySem.W.exmOne K (.ref Z.C_NoEnd) (.ref Z.C_NotChained) = some false
  em_NoEnd_Gap : PySem.W.exmOne K (.ref Z.C_NoEnd) (.ref Z.C_Gap) = some false
  em_NoEnd_NoEnd : PySem.W.exmOne K (.ref Z.C_NoEnd) (.ref Z.C_NoEnd) = some true
  d_BadText___init__ : ExI K Z.C_BadText "BadText.__init__" s_BadText___init__ ["self", "at"]
  d_TooMany___init__ : ExI K Z.C_TooMany "TooMany.__init__" s_TooMany___init__ ["self", "what"]
  d_Twice___init__ : ExI K Z.C_Twice "Twice.__init__" s_Twice___init__ ["self", "name"]
  d_NoClass___init__ : ExI K Z.C_NoClass "NoClass.__init__" s_NoClass___init__ ["self", "name"]
  d_NoOrder___init__ : ExI K Z.C_NoOrder "NoOrder.__init__" s_NoOrder___init__ ["self", "name"]
  d_NotABase___init__ : ExI K Z.C_NotABase "NotABase.__init__" s_NotABase___init__ ["self", "owner", "key", "path"]
  d_Final___init__ : ExI K Z.C_Final "Final.__init__" s_Final___init__ ["self", "name", "key"]
  d_NotChained___init__ : ExI K Z.C_NotChained "NotChained.__init__" s_NotChained___init__ ["self", "name", "key"]
  d_NotLawful___init__ : ExI K Z.C_NotLawful "NotLawful.__init__" s_NotLawful___init__ ["self", "owner", "key", "path"]
  d_BadKey___init__ : ExI K Z.C_BadKey "BadKey.__init__" s_BadKey___init__ ["self", "key"]
  d_BadName___init__ : ExI K Z.C_BadName "BadName.__init__" s_BadName___init__ ["self", "name"]
  d_BadOrder___init__ : ExI K Z.C_BadOrder "BadOrder.__init__" s_BadOrder___init__ ["self", "value"]
  d_BadDeed___init__ : ExI K Z.C_BadDeed "BadDeed.__init__" s_BadDeed___init__ ["self", "at"]
  d_BadLimit___init__ : ExI K Z.C_BadLimit "BadLimit.__init__" s_BadLimit___init__ ["self", "value"]
  d_Far___init__ : ExI K Z.C_Far "Far.__init__" s_Far___init__ ["self", "steps"]
  d_Gap___init__ : ExI K Z.C_Gap "Gap.__init__" s_Gap___init__ ["self", "name", "owner", "key", "path"]
  d_Long___init__ : ExI K Z.C_Long "Long.__init__" s_Long___init__ ["self", "most"]
  d_NoEnd___init__ : ExI K Z.C_NoEnd "NoEnd.__init__" s_NoEnd___init__ ["self", "end"]
  d__law_bag : Dfn K mg "_law_bag" s__law_bag ["script", "at"]
  d__law_draw : Dfn K mg "_law_draw" s__law_draw ["bag", "many"]
  d__law_value : Dfn K mg "_law_value" s__law_value ["bag"]
  d__law_kinds : Dfn K mg "_law_kinds" s__law_kinds ["e"]
  d__law_raised : Dfn K mg "_law_raised" s__law_raised ["number", "one", "two", "three", "four"]
def caZ (Z : Addrs) : Str → Addr := fun s => if s = "EarlyError" then Z.C_EarlyError else if s = "BadText" then Z.C_BadText else if s = "TooMany" then Z.C_TooMany else if s = "Twice" then Z.C_Twice else if s = "NoClass" then Z.C_NoClass else if s = "NoOrder" then Z.C_NoOrder else if s = "NotABase" then Z.C_NotABase else if s = "Final" then Z.C_Final else if s = "NotChained" then Z.C_NotChained else if s = "NotLawful" then Z.C_NotLawful else if s = "BadKey" then Z.C_BadKey else if s = "BadName" then Z.C_BadName else if s = "BadOrder" then Z.C_BadOrder else if s = "BadDeed" then Z.C_BadDeed else if s = "BadLimit" then Z.C_BadLimit else if s = "Far" then Z.C_Far else if s = "Gap" then Z.C_Gap else if s = "Long" then Z.C_Long else if s = "NoObject" then Z.C_NoObject else if s = "NoEnd" then Z.C_NoEnd else 0
theorem ca_EarlyError (Z : Addrs) : caZ Z "EarlyError" = Z.C_EarlyError := by
  unfold caZ
  rw [if_pos rfl]
theorem ca_BadText (Z : Addrs) : caZ Z "BadText" = Z.C_BadText := by
  unfold caZ
  rw [if_neg (by decide +kernel), if_pos rfl]
theorem ca_TooMany (Z : Addrs) : caZ Z "TooMany" = Z.C_TooMany := by
  unfold caZ
  rw [if_neg (by decide +kernel), if_neg (by decide +kernel), if_pos rfl]
theorem ca_Twice (Z : Addrs) : caZ Z "Twice" = Z.C_Twice := by
  unfold caZ
  rw [if_neg (by decide +kernel), if_neg (by decide +kernel), if_neg (by decide +kernel), if_pos rfl]
theorem ca_NoClass (Z : Addrs) : caZ Z "NoClass" = Z.C_NoClass := by
  unfold caZ
  rw [if_neg (by decide +kernel), if_neg (by decide +kernel), if_neg (by decide +kernel), if_neg (by decide +kernel), if_pos rfl]
theorem ca_NoOrder (Z : Addrs) : caZ Z "NoOrder" = Z.C_NoOrder := by
  unfold caZ
  rw [if_neg (by decide +kernel), if_neg (by decide +kernel), if_neg (by decide +kernel), if_neg (by decide +kernel), if_neg (by decide +kernel), if_pos rfl]
theorem ca_NotABase (Z : Addrs) : caZ Z "NotABase" = Z.C_NotABase := by
  unfold caZ
  rw [if_neg (by decide +kernel), if_neg (by decide +kernel), if_neg (by decide +kernel), if_neg (by decide +kernel), if_neg (by decide +kernel), if_neg (by decide +kernel), if_pos rfl]
theorem ca_Final (Z : Addrs) : caZ Z "Final" = Z.C_Final := by
  unfold caZ
  rw [if_neg (by decide +kernel), if_neg (by decide +kernel), if_neg (by decide +kernel), if_neg (by decide +kernel), if_neg (by decide +kernel), if_neg (by decide +kernel), if_neg (by decide +kernel), if_pos rfl]
theorem ca_NotChained (Z : Addrs) : caZ Z "NotChained" = Z.C_NotChained := by
  unfold caZ
  rw [if_neg (by decide +kernel), if_neg (by decide +kernel), if_neg (by decide +kernel), if_neg (by decide +kernel), if_neg (by decide +kernel), if_neg (by decide +kernel), if_neg (by decide +kernel), if_neg (by decide +kernel), if_pos rfl]
theorem ca_NotLawful (Z : Addrs) : caZ Z "NotLawful" = Z.C_NotLawful := by
  unfold caZ
  rw [if_neg (by decide +kernel), if_neg (by decide +kernel), if_neg (by decide +kernel), if_neg (by decide +kernel), if_neg (by decide +kernel), if_neg (by decide +kernel), if_neg (by decide +kernel), if_neg (by decide +kernel), if_neg (by decide +kernel), if_pos rfl]
theorem ca_BadKey (Z : Addrs) : caZ Z "BadKey" = Z.C_BadKey := by
  unfold caZ
  rw [if_neg (by decide +kernel), if_neg (by decide +kernel), if_neg (by decide +kernel), if_neg (by decide +kernel), if_neg (by decide +kernel), if_neg (by decide +kernel), if_neg (by decide +kernel), if_neg (by decide +kernel), if_neg (by decide +kernel), if_neg (by decide +kernel), if_pos rfl]
theorem ca_BadName (Z : Addrs) : caZ Z "BadName" = Z.C_BadName := by
  unfold caZ
  rw [if_neg (by decide +kernel), if_neg (by decide +kernel), if_neg (by decide +kernel), if_neg (by decide +kernel), if_neg (by decide +kernel), if_neg (by decide +kernel), if_neg (by decide +kernel), if_neg (by decide +kernel), if_neg (by decide +kernel), if_neg (by decide +kernel), if_neg (by decide +kernel), if_pos rfl]
theorem ca_BadOrder (Z : Addrs) : caZ Z "BadOrder" = Z.C_BadOrder := by
  unfold caZ
  rw [if_neg (by decide +kernel), if_neg (by decide +kernel), if_neg (by decide +kernel), if_neg (by decide +kernel), if_neg (by decide +kernel), if_neg (by decide +kernel), if_neg (by decide +kernel), if_neg (by decide +kernel), if_neg (by decide +kernel), if_neg (by decide +kernel), if_neg (by decide +kernel), if_neg (by decide +kernel), if_pos rfl]
theorem ca_BadDeed (Z : Addrs) : caZ Z "BadDeed" = Z.C_BadDeed := by
  unfold caZ
  rw [if_neg (by decide +kernel), if_neg (by decide +kernel), if_neg (by decide +kernel), if_neg (by decide +kernel), if_neg (by decide +kernel), if_neg (by decide +kernel), if_neg (by decide +kernel), if_neg (by decide +kernel), if_neg (by decide +kernel), if_neg (by decide +kernel), if_neg (by decide +kernel), if_neg (by decide +kernel), if_neg (by decide +kernel), if_pos rfl]
theorem ca_BadLimit (Z : Addrs) : caZ Z "BadLimit" = Z.C_BadLimit := by
  unfold caZ
  rw [if_neg (by decide +kernel), if_neg (by decide +kernel), if_neg (by decide +kernel), if_neg (by decide +kernel), if_neg (by decide +kernel), if_neg (by decide +kernel), if_neg (by decide +kernel), if_neg (by decide +kernel), if_neg (by decide +kernel), if_neg (by decide +kernel), if_neg (by decide +kernel), if_neg (by decide +kernel), if_neg (by decide +kernel), if_neg (by decide +kernel), if_pos rfl]
theorem ca_Far (Z : Addrs) : caZ Z "Far" = Z.C_Far := by
  unfold caZ
  rw [if_neg (by decide +kernel), if_neg (by decide +kernel), if_neg (by decide +kernel), if_neg (by decide +kernel), if_neg (by decide +kernel), if_neg (by decide +kernel), if_neg (by decide +kernel), if_neg (by decide +kernel), if_neg (by decide +kernel), if_neg (by decide +kernel), if_neg (by decide +kernel), if_neg (by decide +kernel), if_neg (by decide +kernel), if_neg (by decide +kernel), if_neg (by decide +kernel), if_pos rfl]
theorem ca_Gap (Z : Addrs) : caZ Z "Gap" = Z.C_Gap := by
  unfold caZ
  rw [if_neg (by decide +kernel), if_neg (by decide +kernel), if_neg (by decide +kernel), if_neg (by decide +kernel), if_neg (by decide +kernel), if_neg (by decide +kernel), if_neg (by decide +kernel), if_neg (by decide +kernel), if_neg (by decide +kernel), if_neg (by decide +kernel), if_neg (by decide +kernel), if_neg (by decide +kernel), if_neg (by decide +kernel), if_neg (by decide +kernel), if_neg (by decide +kernel), if_neg (by decide +kernel), if_pos rfl]
theorem ca_Long (Z : Addrs) : caZ Z "Long" = Z.C_Long := by
  unfold caZ
  rw [if_neg (by decide +kernel), if_neg (by decide +kernel), if_neg (by decide +kernel), if_neg (by decide +kernel), if_neg (by decide +kernel), if_neg (by decide +kernel), if_neg (by decide +kernel), if_neg (by decide +kernel), if_neg (by decide +kernel), if_neg (by decide +kernel), if_neg (by decide +kernel), if_neg (by decide +kernel), if_neg (by decide +kernel), if_neg (by decide +kernel), if_neg (by decide +kernel), if_neg (by decide +kernel), if_neg (by decide +kernel), if_pos rfl]
theorem ca_NoObject (Z : Addrs) : caZ Z "NoObject" = Z.C_NoObject := by
  unfold caZ
  rw [if_neg (by decide +kernel), if_neg (by decide +kernel), if_neg (by decide +kernel), if_neg (by decide +kernel), if_neg (by decide +kernel), if_neg (by decide +kernel), if_neg (by decide +kernel), if_neg (by decide +kernel), if_neg (by decide +kernel), if_neg (by decide +kernel), if_neg (by decide +kernel), if_neg (by decide +kernel), if_neg (by decide +kernel), if_neg (by decide +kernel), if_neg (by decide +kernel), if_neg (by decide +kernel), if_neg (by decide +kernel), if_neg (by decide +kernel), if_pos rfl]
theorem ca_NoEnd (Z : Addrs) : caZ Z "NoEnd" = Z.C_NoEnd := by
  unfold caZ
  rw [if_neg (by decide +kernel), if_neg (by decide +kernel), if_neg (by decide +kernel), if_neg (by decide +kernel), if_neg (by decide +kernel), if_neg (by decide +kernel), if_neg (by decide +kernel), if_neg (by decide +kernel), if_neg (by decide +kernel), if_neg (by decide +kernel), if_neg (by decide +kernel), if_neg (by decide +kernel), if_neg (by decide +kernel), if_neg (by decide +kernel), if_neg (by decide +kernel), if_neg (by decide +kernel), if_neg (by decide +kernel), if_neg (by decide +kernel), if_neg (by decide +kernel), if_pos rfl]
section
variable {K : PySem.W.Frag} {mg : Str → Option Value} {Z : Addrs}
theorem kz_EarlyError (T : Txt K mg Z) : mg "EarlyError" = some (.ref (caZ Z "EarlyError")) := by rw [ca_EarlyError]; exact T.k_EarlyError
theorem kz_BadText (T : Txt K mg Z) : mg "BadText" = some (.ref (caZ Z "BadText")) := by rw [ca_BadText]; exact T.k_BadText
theorem ecz_BadText (T : Txt K mg Z) : ExcC K (caZ Z "BadText") := by rw [ca_BadText]; exact T.ec_BadText
theorem kz_TooMany (T : Txt K mg Z) : mg "TooMany" = some (.ref (caZ Z "TooMany")) := by rw [ca_TooMany]; exact T.k_TooMany
theorem ecz_TooMany (T : Txt K mg Z) : ExcC K (caZ Z "TooMany") := by rw [ca_TooMany]; exact T.ec_TooMany
theorem kz_Twice (T : Txt K mg Z) : mg "Twice" = some (.ref (caZ Z "Twice")) := by rw [ca_Twice]; exact T.k_Twice
theorem ecz_Twice (T : Txt K mg Z) : ExcC K (caZ Z "Twice") := by rw [ca_Twice]; exact T.ec_Twice
theorem kz_NoClass (T : Txt K mg Z) : mg "NoClass" = some (.ref (caZ Z "NoClass")) := by rw [ca_NoClass]; exact T.k_NoClass
theorem ecz_NoClass (T : Txt K mg Z) : ExcC K (caZ Z "NoClass") := by rw [ca_NoClass]; exact T.ec_NoClass
theorem kz_NoOrder (T : Txt K mg Z) : mg "NoOrder" = some (.ref (caZ Z "NoOrder")) := by rw [ca_NoOrder]; exact T.k_NoOrder
theorem ecz_NoOrder (T : Txt K mg Z) : ExcC K (caZ Z "NoOrder") := by rw [ca_NoOrder]; exact T.ec_NoOrder
theorem kz_NotABase (T : Txt K mg Z) : mg "NotABase" = some (.ref (caZ Z "NotABase")) := by rw [ca_NotABase]; exact T.k_NotABase
theorem ecz_NotABase (T : Txt K mg Z) : ExcC K (caZ Z "NotABase") := by rw [ca_NotABase]; exact T.ec_NotABase
theorem kz_Final (T : Txt K mg Z) : mg "Final" = some (.ref (caZ Z "Final")) := by rw [ca_Final]; exact T.k_Final
theorem ecz_Final (T : Txt K mg Z) : ExcC K (caZ Z "Final") := by rw [ca_Final]; exact T.ec_Final
theorem kz_NotChained (T : Txt K mg Z) : mg "NotChained" = some (.ref (caZ Z "NotChained")) := by rw [ca_NotChained]; exact T.k_NotChained
theorem ecz_NotChained (T : Txt K mg Z) : ExcC K (caZ Z "NotChained") := by rw [ca_NotChained]; exact T.ec_NotChained
theorem kz_NotLawful (T : Txt K mg Z) : mg "NotLawful" = some (.ref (caZ Z "NotLawful")) := by rw [ca_NotLawful]; exact T.k_NotLawful
theorem ecz_NotLawful (T : Txt K mg Z) : ExcC K (caZ Z "NotLawful") := by rw [ca_NotLawful]; exact T.ec_NotLawful
theorem kz_BadKey (T : Txt K mg Z) : mg "BadKey" = some (.ref (caZ Z "BadKey")) := by rw [ca_BadKey]; exact T.k_BadKey
theorem ecz_BadKey (T : Txt K mg Z) : ExcC K (caZ Z "BadKey") := by rw [ca_BadKey]; exact T.ec_BadKey
theorem kz_BadName (T : Txt K mg Z) : mg "BadName" = some (.ref (caZ Z "BadName")) := by rw [ca_BadName]; exact T.k_BadName
theorem ecz_BadName (T : Txt K mg Z) : ExcC K (caZ Z "BadName") := by rw [ca_BadName]; exact T.ec_BadName
theorem kz_BadOrder (T : Txt K mg Z) : mg "BadOrder" = some (.ref (caZ Z "BadOrder")) := by rw [ca_BadOrder]; exact T.k_BadOrder
theorem ecz_BadOrder (T : Txt K mg Z) : ExcC K (caZ Z "BadOrder") := by rw [ca_BadOrder]; exact T.ec_BadOrder
theorem kz_BadDeed (T : Txt K mg Z) : mg "BadDeed" = some (.ref (caZ Z "BadDeed")) := by rw [ca_BadDeed]; exact T.k_BadDeed
theorem ecz_BadDeed (T : Txt K mg Z) : ExcC K (caZ Z "BadDeed") := by rw [ca_BadDeed]; exact T.ec_BadDeed
theorem kz_BadLimit (T : Txt K mg Z) : mg "BadLimit" = some (.ref (caZ Z "BadLimit")) := by rw [ca_BadLimit]; exact T.k_BadLimit
theorem ecz_BadLimit (T : Txt K mg Z) : ExcC K (caZ Z "BadLimit") := by rw [ca_BadLimit]; exact T.ec_BadLimit
theorem kz_Far (T : Txt K mg Z) : mg "Far" = some (.ref (caZ Z "Far")) := by rw [ca_Far]; exact T.k_Far
theorem ecz_Far (T : Txt K mg Z) : ExcC K (caZ Z "Far") := by rw [ca_Far]; exact T.ec_Far
theorem kz_Gap (T : Txt K mg Z) : mg "Gap" = some (.ref (caZ Z "Gap")) := by rw [ca_Gap]; exact T.k_Gap
theorem ecz_Gap (T : Txt K mg Z) : ExcC K (caZ Z "Gap") := by rw [ca_Gap]; exact T.ec_Gap
theorem kz_Long (T : Txt K mg Z) : mg "Long" = some (.ref (caZ Z "Long")) := by rw [ca_Long]; exact T.k_Long
theorem ecz_Long (T : Txt K mg Z) : ExcC K (caZ Z "Long") := by rw [ca_Long]; exact T.ec_Long
theorem kz_NoObject (T : Txt K mg Z) : mg "NoObject" = some (.ref (caZ Z "NoObject")) := by rw [ca_NoObject]; exact T.k_NoObject
theorem ecz_NoObject (T : Txt K mg Z) : ExcC K (caZ Z "NoObject") := by rw [ca_NoObject]; exact T.ec_NoObject
theorem kz_NoEnd (T : Txt K mg Z) : mg "NoEnd" = some (.ref (caZ Z "NoEnd")) := by rw [ca_NoEnd]; exact T.k_NoEnd
theorem ecz_NoEnd (T : Txt K mg Z) : ExcC K (caZ Z "NoEnd") := by rw [ca_NoEnd]; exact T.ec_NoEnd
def tb_is_BadText : List (Str × Bool) := [("BadText", true), ("TooMany", false), ("Twice", false), ("NoClass", false), ("NoOrder", false), ("NotABase", false), ("Final", false), ("NotChained", false), ("NotLawful", false), ("BadKey", false), ("BadName", false), ("BadOrder", false), ("BadDeed", false), ("BadLimit", false), ("Far", false), ("Gap", false), ("Long", false), ("NoObject", false), ("NoEnd", false)]
def ks_BadText : Str → Option Bool := fun c => tb_is_BadText.lookup c
theorem ks_BadText_ok (T : Txt K mg Z) : ∀ c b, ks_BadText c = some b → ExcC K (caZ Z c) ∧ PySem.W.kitOne K (.ref (caZ Z c)) (.ref Z.C_BadText) = some b :=
  ksOk (l := tb_is_BadText) (by simp only [tb_is_BadText, List.map_cons, List.map_nil, ca_BadText, ca_TooMany, ca_Twice, ca_NoClass, ca_NoOrder, ca_NotABase, ca_Final, ca_NotChained, ca_NotLawful, ca_BadKey, ca_BadName, ca_BadOrder, ca_BadDeed, ca_BadLimit, ca_Far, ca_Gap, ca_Long, ca_NoObject, ca_NoEnd]) (by
    unfold tb_is_BadText
    simp only [List.forall_mem_cons, List.not_mem_nil, false_imp_iff, implies_true, and_true]
    exact ⟨ecz_BadText T, ecz_TooMany T, ecz_Twice T, ecz_NoClass T, ecz_NoOrder T, ecz_NotABase T, ecz_Final T, ecz_NotChained T, ecz_NotLawful T, ecz_BadKey T, ecz_BadName T, ecz_BadOrder T, ecz_BadDeed T, ecz_BadLimit T, ecz_Far T, ecz_Gap T, ecz_Long T, ecz_NoObject T, ecz_NoEnd T⟩) T.is_BadText
def tb_is_TooMany : List (Str × Bool) := [("BadText", false), ("TooMany", true), ("Twice", false), ("NoClass", false), ("NoOrder", false), ("NotABase", false), ("Final", false), ("NotChained", false), ("NotLawful", false), ("BadKey", false), ("BadName", false), ("BadOrder", false), ("BadDeed", false), ("BadLimit", false), ("Far", false), ("Gap", false), ("Long", false), ("NoObject", false), ("NoEnd", false)]
def ks_TooMany : Str → Option Bool := fun c => tb_is_TooMany.lookup c
theorem ks_TooMany_ok (T : Txt K mg Z) : ∀ c b, ks_TooMany c = some b → ExcC K (caZ Z c) ∧ PySem.W.kitOne K (.ref (caZ Z c)) (.ref Z.C_TooMany) = some b :=
  ksOk (l := tb_is_TooMany) (by simp only [tb_is_TooMany, List.map_cons, List.map_nil, ca_BadText, ca_TooMany, ca_Twice, ca_NoClass, ca_NoOrder, ca_NotABase, ca_Final, ca_NotChained, ca_NotLawful, ca_BadKey, ca_BadName, ca_BadOrder, ca_BadDeed, ca_BadLimit, ca_Far, ca_Gap, ca_Long, ca_NoObject, ca_NoEnd]) (by
    unfold tb_is_TooMany
    simp only [List.forall_mem_cons, List.not_mem_nil, false_imp_iff, implies_true, and_true]
    exact ⟨ecz_BadText T, ecz_TooMany T, ecz_Twice T, ecz_NoClass T, ecz_NoOrder T, ecz_NotABase T, ecz_Final T, ecz_NotChained T, ecz_NotLawful T, ecz_BadKey T, ecz_BadName T, ecz_BadOrder T, ecz_BadDeed T, ecz_BadLimit T, ecz_Far T, ecz_Gap T, ecz_Long T, ecz_NoObject T, ecz_NoEnd T⟩) T.is_TooMany
def tb_is_Twice : List (Str × Bool) := [("BadText", false), ("TooMany", false), ("Twice", true), ("NoClass", false), ("NoOrder", false), ("NotABase", false), ("Final", false), ("NotChained", false), ("NotLawful", false), ("BadKey", false), ("BadName", false), ("BadOrder", false), ("BadDeed", false), ("BadLimit", false), ("Far", false), ("Gap", false), ("Long", false), ("NoObject", false), ("NoEnd", false)]
def ks_Twice : Str → Option Bool := fun c => tb_is_Twice.lookup c
theorem ks_Twice_ok (T : Txt K mg Z) : ∀ c b, ks_Twice c = some b → ExcC K (caZ Z c) ∧ PySem.W.kitOne K (.ref (caZ Z c)) (.ref Z.C_Twice) = some b :=
  ksOk (l := tb_is_Twice) (by simp only [tb_is_Twice, List.map_cons, List.map_nil, ca_BadText, ca_TooMany, ca_Twice, ca_NoClass, ca_NoOrder, ca_NotABase, ca_Final, ca_NotChained, ca_NotLawful, ca_BadKey, ca_BadName, ca_BadOrder, ca_BadDeed, ca_BadLimit, ca_Far, ca_Gap, ca_Long, ca_NoObject, ca_NoEnd]) (by
    unfold tb_is_Twice
    simp only [List.forall_mem_cons, List.not_mem_nil, false_imp_iff, implies_true, and_true]
    exact ⟨ecz_BadText T, ecz_TooMany T, ecz_Twice T, ecz_NoClass T, ecz_NoOrder T, ecz_NotABase T, ecz_Final T, ecz_NotChained T, ecz_NotLawful T, ecz_BadKey T, ecz_BadName T, ecz_BadOrder T, ecz_BadDeed T, ecz_BadLimit T, ecz_Far T, ecz_Gap T, ecz_Long T, ecz_NoObject T, ecz_NoEnd T⟩) T.is_Twice
def tb_is_NoClass : List (Str × Bool) := [("BadText", false), ("TooMany", false), ("Twice", false), ("NoClass", true), ("NoOrder", false), ("NotABase", false), ("Final", false), ("NotChained", false), ("NotLawful", false), ("BadKey", false), ("BadName", false), ("BadOrder", false), ("BadDeed", false), ("BadLimit", false), ("Far", false), ("Gap", false), ("Long", false), ("NoObject", false), ("NoEnd", false)]
def ks_NoClass : Str → Option Bool := fun c => tb_is_NoClass.lookup c
theorem ks_NoClass_ok (T : Txt K mg Z) : ∀ c b, ks_NoClass c = some b → ExcC K (caZ Z c) ∧ PySem.W.kitOne K (.ref (caZ Z c)) (.ref Z.C_NoClass) = some b :=
  ksOk (l := tb_is_NoClass) (by simp only [tb_is_NoClass, List.map_cons, List.map_nil, ca_BadText, ca_TooMany, ca_Twice, ca_NoClass, ca_NoOrder, ca_NotABase, ca_Final, ca_NotChained, ca_NotLawful, ca_BadKey, ca_BadName, ca_BadOrder, ca_BadDeed, ca_BadLimit, ca_Far, ca_Gap, ca_Long, ca_NoObject, ca_NoEnd]) (by
    unfold tb_is_NoClass
    simp only [List.forall_mem_cons, List.not_mem_nil, false_imp_iff, implies_true, and_true]
    exact ⟨ecz_BadText T, ecz_TooMany T, ecz_Twice T, ecz_NoClass T, ecz_NoOrder T, ecz_NotABase T, ecz_Final T, ecz_NotChained T, ecz_NotLawful T, ecz_BadKey T, ecz_BadName T, ecz_BadOrder T, ecz_BadDeed T, ecz_BadLimit T, ecz_Far T, ecz_Gap T, ecz_Long T, ecz_NoObject T, ecz_NoEnd T⟩) T.is_NoClass
def tb_is_NoOrder : List (Str × Bool) := [("BadText", false), ("TooMany", false), ("Twice", false), ("NoClass", false), ("NoOrder", true), ("NotABase", false), ("Final", false), ("NotChained", false), ("NotLawful", false), ("BadKey", false), ("BadName", false), ("BadOrder", false), ("BadDeed", false), ("BadLimit", false), ("Far", false), ("Gap", false), ("Long", false), ("NoObject", false), ("NoEnd", false)]
def ks_NoOrder : Str → Option Bool := fun c => tb_is_NoOrder.lookup c
theorem ks_NoOrder_ok (T : Txt K mg Z) : ∀ c b, ks_NoOrder c = some b → ExcC K (caZ Z c) ∧ PySem.W.kitOne K (.ref (caZ Z c)) (.ref Z.C_NoOrder) = some b :=
  ksOk (l := tb_is_NoOrder) (by simp only [tb_is_NoOrder, List.map_cons, List.map_nil, ca_BadText, ca_TooMany, ca_Twice, ca_NoClass, ca_NoOrder, ca_NotABase, ca_Final, ca_NotChained, ca_NotLawful, ca_BadKey, ca_BadName, ca_BadOrder, ca_BadDeed, ca_BadLimit, ca_Far, ca_Gap, ca_Long, ca_NoObject, ca_NoEnd]) (by
    unfold tb_is_NoOrder
    simp only [List.forall_mem_cons, List.not_mem_nil, false_imp_iff, implies_true, and_true]
    exact ⟨ecz_BadText T, ecz_TooMany T, ecz_Twice T, ecz_NoClass T, ecz_NoOrder T, ecz_NotABase T, ecz_Final T, ecz_NotChained T, ecz_NotLawful T, ecz_BadKey T, ecz_BadName T, ecz_BadOrder T, ecz_BadDeed T, ecz_BadLimit T, ecz_Far T, ecz_Gap T, ecz_Long T, ecz_NoObject T, ecz_NoEnd T⟩) T.is_NoOrder
def tb_is_NotABase : List (Str × Bool) := [("BadText", false), ("TooMany", false), ("Twice", false), ("NoClass", false), ("NoOrder", false), ("NotABase", true), ("Final", false), ("NotChained", false), ("NotLawful", false), ("BadKey", false), ("BadName", false), ("BadOrder", false), ("BadDeed", false), ("BadLimit", false), ("Far", false), ("Gap", false), ("Long", false), ("NoObject", false), ("NoEnd", false)]
def ks_NotABase : Str → Option Bool := fun c => tb_is_NotABase.lookup c
theorem ks_NotABase_ok (T : Txt K mg Z) : ∀ c b, ks_NotABase c = some b → ExcC K (caZ Z c) ∧ PySem.W.kitOne K (.ref (caZ Z c)) (.ref Z.C_NotABase) = some b :=
  ksOk (l := tb_is_NotABase) (by simp only [tb_is_NotABase, List.map_cons, List.map_nil, ca_BadText, ca_TooMany, ca_Twice, ca_NoClass, ca_NoOrder, ca_NotABase, ca_Final, ca_NotChained, ca_NotLawful, ca_BadKey, ca_BadName, ca_BadOrder, ca_BadDeed, ca_BadLimit, ca_Far, ca_Gap, ca_Long, ca_NoObject, ca_NoEnd]) (by
    unfold tb_is_NotABase
    simp only [List.forall_mem_cons, List.not_mem_nil, false_imp_iff, implies_true, and_true]
    exact ⟨ecz_BadText T, ecz_TooMany T, ecz_Twice T, ecz_NoClass T, ecz_NoOrder T, ecz_NotABase T, ecz_Final T, ecz_NotChained T, ecz_NotLawful T, ecz_BadKey T, ecz_BadName T, ecz_BadOrder T, ecz_BadDeed T, ecz_BadLimit T, ecz_Far T, ecz_Gap T, ecz_Long T, ecz_NoObject T, ecz_NoEnd T⟩) T.is_NotABase
def tb_is_Final : List (Str × Bool) := [("BadText", false), ("TooMany", false), ("Twice", false), ("NoClass", false), ("NoOrder", false), ("NotABase", false), ("Final", true), ("NotChained", false), ("NotLawful", false), ("BadKey", false), ("BadName", false), ("BadOrder", false), ("BadDeed", false), ("BadLimit", false), ("Far", false), ("Gap", false), ("Long", false), ("NoObject", false), ("NoEnd", false)]
def ks_Final : Str → Option Bool := fun c => tb_is_Final.lookup c
theorem ks_Final_ok (T : Txt K mg Z) : ∀ c b, ks_Final c = some b → ExcC K (caZ Z c) ∧ PySem.W.kitOne K (.ref (caZ Z c)) (.ref Z.C_Final) = some b :=
  ksOk (l := tb_is_Final) (by simp only [tb_is_Final, List.map_cons, List.map_nil, ca_BadText, ca_TooMany, ca_Twice, ca_NoClass, ca_NoOrder, ca_NotABase, ca_Final, ca_NotChained, ca_NotLawful, ca_BadKey, ca_BadName, ca_BadOrder, ca_BadDeed, ca_BadLimit, ca_Far, ca_Gap, ca_Long, ca_NoObject, ca_NoEnd]) (by
    unfold tb_is_Final
    simp only [List.forall_mem_cons, List.not_mem_nil, false_imp_iff, implies_true, and_true]
    exact ⟨ecz_BadText T, ecz_TooMany T, ecz_Twice T, ecz_NoClass T, ecz_NoOrder T, ecz_NotABase T, ecz_Final T, ecz_NotChained T, ecz_NotLawful T, ecz_BadKey T, ecz_BadName T, ecz_BadOrder T, ecz_BadDeed T, ecz_BadLimit T, ecz_Far T, ecz_Gap T, ecz_Long T, ecz_NoObject T, ecz_NoEnd T⟩) T.is_Final
def tb_is_NotChained : List (Str × Bool) := [("BadText", false), ("TooMany", false), ("Twice", false), ("NoClass", false), ("NoOrder", false), ("NotABase", false), ("Final", false), ("NotChained", true), ("NotLawful", false), ("BadKey", false), ("BadName", false), ("BadOrder", false), ("BadDeed", false), ("BadLimit", false), ("Far", false), ("Gap", false), ("Long", false), ("NoObject", false), ("NoEnd", false)]
def ks_NotChained : Str → Option Bool := fun c => tb_is_NotChained.lookup c
theorem ks_NotChained_ok (T : Txt K mg Z) : ∀ c b, ks_NotChained c = some b → ExcC K (caZ Z c) ∧ PySem.W.kitOne K (.ref (caZ Z c)) (.ref Z.C_NotChained) = some b :=
  ksOk (l := tb_is_NotChained) (by simp only [tb_is_NotChained, List.map_cons, List.map_nil, ca_BadText, ca_TooMany, ca_Twice, ca_NoClass, ca_NoOrder, ca_NotABase, ca_Final, ca_NotChained, ca_NotLawful, ca_BadKey, ca_BadName, ca_BadOrder, ca_BadDeed, ca_BadLimit, ca_Far, ca_Gap, ca_Long, ca_NoObject, ca_NoEnd]) (by
    unfold tb_is_NotChained
    simp only [List.forall_mem_cons, List.not_mem_nil, false_imp_iff, implies_true, and_true]
    exact ⟨ecz_BadText T, ecz_TooMany T, ecz_Twice T, ecz_NoClass T, ecz_NoOrder T, ecz_NotABase T, ecz_Final T, ecz_NotChained T, ecz_NotLawful T, ecz_BadKey T, ecz_BadName T, ecz_BadOrder T, ecz_BadDeed T, ecz_BadLimit T, ecz_Far T, ecz_Gap T, ecz_Long T, ecz_NoObject T, ecz_NoEnd T⟩) T.is_NotChained
def tb_is_NotLawful : List (Str × Bool) := [("BadText", false), ("TooMany", false), ("Twice", false), ("NoClass", false), ("NoOrder", false), ("NotABase", false), ("Final", false), ("NotChained", false), ("NotLawful", true), ("BadKey", false), ("BadName", false), ("BadOrder", false), ("BadDeed", false), ("BadLimit", false), ("Far", false), ("Gap", false), ("Long", false), ("NoObject", false), ("NoEnd", false)]
def ks_NotLawful : Str → Option Bool := fun c => tb_is_NotLawful.lookup c
theorem ks_NotLawful_ok (T : Txt K mg Z) : ∀ c b, ks_NotLawful c = some b → ExcC K (caZ Z c) ∧ PySem.W.kitOne K (.ref (caZ Z c)) (.ref Z.C_NotLawful) = some b :=
  ksOk (l := tb_is_NotLawful) (by simp only [tb_is_NotLawful, List.map_cons, List.map_nil, ca_BadText, ca_TooMany, ca_Twice, ca_NoClass, ca_NoOrder, ca_NotABase, ca_Final, ca_NotChained, ca_NotLawful, ca_BadKey, ca_BadName, ca_BadOrder, ca_BadDeed, ca_BadLimit, ca_Far, ca_Gap, ca_Long, ca_NoObject, ca_NoEnd]) (by
    unfold tb_is_NotLawful
    simp only [List.forall_mem_cons, List.not_mem_nil, false_imp_iff, implies_true, and_true]
    exact ⟨ecz_BadText T, ecz_TooMany T, ecz_Twice T, ecz_NoClass T, ecz_NoOrder T, ecz_NotABase T, ecz_Final T, ecz_NotChained T, ecz_NotLawful T, ecz_BadKey T, ecz_BadName T, ecz_BadOrder T, ecz_BadDeed T, ecz_BadLimit T, ecz_Far T, ecz_Gap T, ecz_Long T, ecz_NoObject T, ecz_NoEnd T⟩) T.is_NotLawful
def tb_is_BadKey : List (Str × Bool) := [("BadText", false), ("TooMany", false), ("Twice", false), ("NoClass", false), ("NoOrder", false), ("NotABase", false), ("Final", false), ("NotChained", false), ("NotLawful", false), ("BadKey", true), ("BadName", false), ("BadOrder", false), ("BadDeed", false), ("BadLimit", false), ("Far", false), ("Gap", false), ("Long", false), ("NoObject", false), ("NoEnd", false)]
def ks_BadKey : Str → Option Bool := fun c => tb_is_BadKey.lookup c
theorem ks_BadKey_ok (T : Txt K mg Z) : ∀ c b, ks_BadKey c = some b → ExcC K (caZ Z c) ∧ PySem.W.kitOne K (.ref (caZ Z c)) (.ref Z.C_BadKey) = some b :=
  ksOk (l := tb_is_BadKey) (by simp only [tb_is_BadKey, List.map_cons, List.map_nil, ca_BadText, ca_TooMany, ca_Twice, ca_NoClass, ca_NoOrder, ca_NotABase, ca_Final, ca_NotChained, ca_NotLawful, ca_BadKey, ca_BadName, ca_BadOrder, ca_BadDeed, ca_BadLimit, ca_Far, ca_Gap, ca_Long, ca_NoObject, ca_NoEnd]) (by
    unfold tb_is_BadKey
    simp only [List.forall_mem_cons, List.not_mem_nil, false_imp_iff, implies_true, and_true]
    exact ⟨ecz_BadText T, ecz_TooMany T, ecz_Twice T, ecz_NoClass T, ecz_NoOrder T, ecz_NotABase T, ecz_Final T, ecz_NotChained T, ecz_NotLawful T, ecz_BadKey T, ecz_BadName T, ecz_BadOrder T, ecz_BadDeed T, ecz_BadLimit T, ecz_Far T, ecz_Gap T, ecz_Long T, ecz_NoObject T, ecz_NoEnd T⟩) T.is_BadKey
def tb_is_BadName : List (Str × Bool) := [("BadText", false), ("TooMany", false), ("Twice", false), ("NoClass", false), ("NoOrder", false), ("NotABase", false), ("Final", false), ("NotChained", false), ("NotLawful", false), ("BadKey", false), ("BadName", true), ("BadOrder", false), ("BadDeed", false), ("BadLimit", false), ("Far", false), ("Gap", false), ("Long", false), ("NoObject", false), ("NoEnd", false)]
def ks_BadName : Str → Option Bool := fun c => tb_is_BadName.lookup c
theorem ks_BadName_ok (T : Txt K mg Z) : ∀ c b, ks_BadName c = some b → ExcC K (caZ Z c) ∧ PySem.W.kitOne K (.ref (caZ Z c)) (.ref Z.C_BadName) = some b :=
  ksOk (l := tb_is_BadName) (by simp only [tb_is_BadName, List.map_cons, List.map_nil, ca_BadText, ca_TooMany, ca_Twice, ca_NoClass, ca_NoOrder, ca_NotABase, ca_Final, ca_NotChained, ca_NotLawful, ca_BadKey, ca_BadName, ca_BadOrder, ca_BadDeed, ca_BadLimit, ca_Far, ca_Gap, ca_Long, ca_NoObject, ca_NoEnd]) (by
    unfold tb_is_BadName
    simp only [List.forall_mem_cons, List.not_mem_nil, false_imp_iff, implies_true, and_true]
    exact ⟨ecz_BadText T, ecz_TooMany T, ecz_Twice T, ecz_NoClass T, ecz_NoOrder T, ecz_NotABase T, ecz_Final T, ecz_NotChained T, ecz_NotLawful T, ecz_BadKey T, ecz_BadName T, ecz_BadOrder T, ecz_BadDeed T, ecz_BadLimit T, ecz_Far T, ecz_Gap T, ecz_Long T, ecz_NoObject T, ecz_NoEnd T⟩) T.is_BadName
def tb_is_BadOrder : List (Str × Bool) := [("BadText", false), ("TooMany", false), ("Twice", false), ("NoClass", false), ("NoOrder", false), ("NotABase", false), ("Final", false), ("NotChained", false), ("NotLawful", false), ("BadKey", false), ("BadName", false), ("BadOrder", true), ("BadDeed", false), ("BadLimit", false), ("Far", false), ("Gap", false), ("Long", false), ("NoObject", false), ("NoEnd", false)]
def ks_BadOrder : Str → Option Bool := fun c => tb_is_BadOrder.lookup c
theorem ks_BadOrder_ok (T : Txt K mg Z) : ∀ c b, ks_BadOrder c = some b → ExcC K (caZ Z c) ∧ PySem.W.kitOne K (.ref (caZ Z c)) (.ref Z.C_BadOrder) = some b :=
  ksOk (l := tb_is_BadOrder) (by simp only [tb_is_BadOrder, List.map_cons, List.map_nil, ca_BadText, ca_TooMany, ca_Twice, ca_NoClass, ca_NoOrder, ca_NotABase, ca_Final, ca_NotChained, ca_NotLawful, ca_BadKey, ca_BadName, ca_BadOrder, ca_BadDeed, ca_BadLimit, ca_Far, ca_Gap, ca_Long, ca_NoObject, ca_NoEnd]) (by
    unfold tb_is_BadOrder
    simp only [List.forall_mem_cons, List.not_mem_nil, false_imp_iff, implies_true, and_true]
    exact ⟨ecz_BadText T, ecz_TooMany T, ecz_Twice T, ecz_NoClass T, ecz_NoOrder T, ecz_NotABase T, ecz_Final T, ecz_NotChained T, ecz_NotLawful T, ecz_BadKey T, ecz_BadName T, ecz_BadOrder T, ecz_BadDeed T, ecz_BadLimit T, ecz_Far T, ecz_Gap T, ecz_Long T, ecz_NoObject T, ecz_NoEnd T⟩) T.is_BadOrder
def tb_is_BadDeed : List (Str × Bool) := [("BadText", false), ("TooMany", false), ("Twice", false), ("NoClass", false), ("NoOrder", false), ("NotABase", false), ("Final", false), ("NotChained", false), ("NotLawful", false), ("BadKey", false), ("BadName", false), ("BadOrder", false), ("BadDeed", true), ("BadLimit", false), ("Far", false), ("Gap", false), ("Long", false), ("NoObject", false), ("NoEnd", false)]
def ks_BadDeed : Str → Option Bool := fun c => tb_is_BadDeed.lookup c
theorem ks_BadDeed_ok (T : Txt K mg Z) : ∀ c b, ks_BadDeed c = some b → ExcC K (caZ Z c) ∧ PySem.W.kitOne K (.ref (caZ Z c)) (.ref Z.C_BadDeed) = some b :=
  ksOk (l := tb_is_BadDeed) (by simp only [tb_is_BadDeed, List.map_cons, List.map_nil, ca_BadText, ca_TooMany, ca_Twice, ca_NoClass, ca_NoOrder, ca_NotABase, ca_Final, ca_NotChained, ca_NotLawful, ca_BadKey, ca_BadName, ca_BadOrder, ca_BadDeed, ca_BadLimit, ca_Far, ca_Gap, ca_Long, ca_NoObject, ca_NoEnd]) (by
    unfold tb_is_BadDeed
    simp only [List.forall_mem_cons, List.not_mem_nil, false_imp_iff, implies_true, and_true]
    exact ⟨ecz_BadText T, ecz_TooMany T, ecz_Twice T, ecz_NoClass T, ecz_NoOrder T, ecz_NotABase T, ecz_Final T, ecz_NotChained T, ecz_NotLawful T, ecz_BadKey T, ecz_BadName T, ecz_BadOrder T, ecz_BadDeed T, ecz_BadLimit T, ecz_Far T, ecz_Gap T, ecz_Long T, ecz_NoObject T, ecz_NoEnd T⟩) T.is_BadDeed
def tb_is_BadLimit : List (Str × Bool) := [("BadText", false), ("TooMany", false), ("Twice", false), ("NoClass", false), ("NoOrder", false), ("NotABase", false), ("Final", false), ("NotChained", false), ("NotLawful", false), ("BadKey", false), ("BadName", false), ("BadOrder", false), ("BadDeed", false), ("BadLimit", true), ("Far", false), ("Gap", false), ("Long", false), ("NoObject", false), ("NoEnd", false)]
def ks_BadLimit : Str → Option Bool := fun c => tb_is_BadLimit.lookup c
theorem ks_BadLimit_ok (T : Txt K mg Z) : ∀ c b, ks_BadLimit c = some b → ExcC K (caZ Z c) ∧ PySem.W.kitOne K (.ref (caZ Z c)) (.ref Z.C_BadLimit) = some b :=
  ksOk (l := tb_is_BadLimit) (by simp only [tb_is_BadLimit, List.map_cons, List.map_nil, ca_BadText, ca_TooMany, ca_Twice, ca_NoClass, ca_NoOrder, ca_NotABase, ca_Final, ca_NotChained, ca_NotLawful, ca_BadKey, ca_BadName, ca_BadOrder, ca_BadDeed, ca_BadLimit, ca_Far, ca_Gap, ca_Long, ca_NoObject, ca_NoEnd]) (by
    unfold tb_is_BadLimit
    simp only [List.forall_mem_cons, List.not_mem_nil, false_imp_iff, implies_true, and_true]
    exact ⟨ecz_BadText T, ecz_TooMany T, ecz_Twice T, ecz_NoClass T, ecz_NoOrder T, ecz_NotABase T, ecz_Final T, ecz_NotChained T, ecz_NotLawful T, ecz_BadKey T, ecz_BadName T, ecz_BadOrder T, ecz_BadDeed T, ecz_BadLimit T, ecz_Far T, ecz_Gap T, ecz_Long T, ecz_NoObject T, ecz_NoEnd T⟩) T.is_BadLimit
def tb_is_Far : List (Str × Bool) := [("BadText", false), ("TooMany", false), ("Twice", false), ("NoClass", false), ("NoOrder", false), ("NotABase", false), ("Final", false), ("NotChained", false), ("NotLawful", false), ("BadKey", false), ("BadName", false), ("BadOrder", false), ("BadDeed", false), ("BadLimit", false), ("Far", true), ("Gap", false), ("Long", false), ("NoObject", false), ("NoEnd", false)]
def ks_Far : Str → Option Bool := fun c => tb_is_Far.lookup c
theorem ks_Far_ok (T : Txt K mg Z) : ∀ c b, ks_Far c = some b → ExcC K (caZ Z c) ∧ PySem.W.kitOne K (.ref (caZ Z c)) (.ref Z.C_Far) = some b :=
  ksOk (l := tb_is_Far) (by simp only [tb_is_Far, List.map_cons, List.map_nil, ca_BadText, ca_TooMany, ca_Twice, ca_NoClass, ca_NoOrder, ca_NotABase, ca_Final, ca_NotChained, ca_NotLawful, ca_BadKey, ca_BadName, ca_BadOrder, ca_BadDeed, ca_BadLimit, ca_Far, ca_Gap, ca_Long, ca_NoObject, ca_NoEnd]) (by
    unfold tb_is_Far
    simp only [List.forall_mem_cons, List.not_mem_nil, false_imp_iff, implies_true, and_true]
    exact ⟨ecz_BadText T, ecz_TooMany T, ecz_Twice T, ecz_NoClass T, ecz_NoOrder T, ecz_NotABase T, ecz_Final T, ecz_NotChained T, ecz_NotLawful T, ecz_BadKey T, ecz_BadName T, ecz_BadOrder T, ecz_BadDeed T, ecz_BadLimit T, ecz_Far T, ecz_Gap T, ecz_Long T, ecz_NoObject T, ecz_NoEnd T⟩) T.is_Far
def tb_is_Gap : List (Str × Bool) := [("BadText", false), ("TooMany", false), ("Twice", false), ("NoClass", false), ("NoOrder", false), ("NotABase", false), ("Final", false), ("NotChained", false), ("NotLawful", false), ("BadKey", false), ("BadName", false), ("BadOrder", false), ("BadDeed", false), ("BadLimit", false), ("Far", false), ("Gap", true), ("Long", false), ("NoObject", false), ("NoEnd", false)]
def ks_Gap : Str → Option Bool := fun c => tb_is_Gap.lookup c
theorem ks_Gap_ok (T : Txt K mg Z) : ∀ c b, ks_Gap c = some b → ExcC K (caZ Z c) ∧ PySem.W.kitOne K (.ref (caZ Z c)) (.ref Z.C_Gap) = some b :=
  ksOk (l := tb_is_Gap) (by simp only [tb_is_Gap, List.map_cons, List.map_nil, ca_BadText, ca_TooMany, ca_Twice, ca_NoClass, ca_NoOrder, ca_NotABase, ca_Final, ca_NotChained, ca_NotLawful, ca_BadKey, ca_BadName, ca_BadOrder, ca_BadDeed, ca_BadLimit, ca_Far, ca_Gap, ca_Long, ca_NoObject, ca_NoEnd]) (by
    unfold tb_is_Gap
    simp only [List.forall_mem_cons, List.not_mem_nil, false_imp_iff, implies_true, and_true]
    exact ⟨ecz_BadText T, ecz_TooMany T, ecz_Twice T, ecz_NoClass T, ecz_NoOrder T, ecz_NotABase T, ecz_Final T, ecz_NotChained T, ecz_NotLawful T, ecz_BadKey T, ecz_BadName T, ecz_BadOrder T, ecz_BadDeed T, ecz_BadLimit T, ecz_Far T, ecz_Gap T, ecz_Long T, ecz_NoObject T, ecz_NoEnd T⟩) T.is_Gap
def tb_is_Long : List (Str × Bool) := [("BadText", false), ("TooMany", false), ("Twice", false), ("NoClass", false), ("NoOrder", false), ("NotABase", false), ("Final", false), ("NotChained", false), ("NotLawful", false), ("BadKey", false), ("BadName", false), ("BadOrder", false), ("BadDeed", false), ("BadLimit", false), ("Far", false), ("Gap", false), ("Long", true), ("NoObject", false), ("NoEnd", false)]
def ks_Long : Str → Option Bool := fun c => tb_is_Long.lookup c
theorem ks_Long_ok (T : Txt K mg Z) : ∀ c b, ks_Long c = some b → ExcC K (caZ Z c) ∧ PySem.W.kitOne K (.ref (caZ Z c)) (.ref Z.C_Long) = some b :=
  ksOk (l := tb_is_Long) (by simp only [tb_is_Long, List.map_cons, List.map_nil, ca_BadText, ca_TooMany, ca_Twice, ca_NoClass, ca_NoOrder, ca_NotABase, ca_Final, ca_NotChained, ca_NotLawful, ca_BadKey, ca_BadName, ca_BadOrder, ca_BadDeed, ca_BadLimit, ca_Far, ca_Gap, ca_Long, ca_NoObject, ca_NoEnd]) (by
    unfold tb_is_Long
    simp only [List.forall_mem_cons, List.not_mem_nil, false_imp_iff, implies_true, and_true]
    exact ⟨ecz_BadText T, ecz_TooMany T, ecz_Twice T, ecz_NoClass T, ecz_NoOrder T, ecz_NotABase T, ecz_Final T, ecz_NotChained T, ecz_NotLawful T, ecz_BadKey T, ecz_BadName T, ecz_BadOrder T, ecz_BadDeed T, ecz_BadLimit T, ecz_Far T, ecz_Gap T, ecz_Long T, ecz_NoObject T, ecz_NoEnd T⟩) T.is_Long
def tb_is_NoObject : List (Str × Bool) := [("BadText", false), ("TooMany", false), ("Twice", false), ("NoClass", false), ("NoOrder", false), ("NotABase", false), ("Final", false), ("NotChained", false), ("NotLawful", false), ("BadKey", false), ("BadName", false), ("BadOrder", false), ("BadDeed", false), ("BadLimit", false), ("Far", false), ("Gap", false), ("Long", false), ("NoObject", true), ("NoEnd", false)]
def ks_NoObject : Str → Option Bool := fun c => tb_is_NoObject.lookup c
theorem ks_NoObject_ok (T : Txt K mg Z) : ∀ c b, ks_NoObject c = some b → ExcC K (caZ Z c) ∧ PySem.W.kitOne K (.ref (caZ Z c)) (.ref Z.C_NoObject) = some b :=
  ksOk (l := tb_is_NoObject) (by simp only [tb_is_NoObject, List.map_cons, List.map_nil, ca_BadText, ca_TooMany, ca_Twice, ca_NoClass, ca_NoOrder, ca_NotABase, ca_Final, ca_NotChained, ca_NotLawful, ca_BadKey, ca_BadName, ca_BadOrder, ca_BadDeed, ca_BadLimit, ca_Far, ca_Gap, ca_Long, ca_NoObject, ca_NoEnd]) (by
    unfold tb_is_NoObject
    simp only [List.forall_mem_cons, List.not_mem_nil, false_imp_iff, implies_true, and_true]
    exact ⟨ecz_BadText T, ecz_TooMany T, ecz_Twice T, ecz_NoClass T, ecz_NoOrder T, ecz_NotABase T, ecz_Final T, ecz_NotChained T, ecz_NotLawful T, ecz_BadKey T, ecz_BadName T, ecz_BadOrder T, ecz_BadDeed T, ecz_BadLimit T, ecz_Far T, ecz_Gap T, ecz_Long T, ecz_NoObject T, ecz_NoEnd T⟩) T.is_NoObject
def tb_is_NoEnd : List (Str × Bool) := [("BadText", false), ("TooMany", false), ("Twice", false), ("NoClass", false), ("NoOrder", false), ("NotABase", false), ("Final", false), ("NotChained", false), ("NotLawful", false), ("BadKey", false), ("BadName", false), ("BadOrder", false), ("BadDeed", false), ("BadLimit", false), ("Far", false), ("Gap", false), ("Long", false), ("NoObject", false), ("NoEnd", true)]
def ks_NoEnd : Str → Option Bool := fun c => tb_is_NoEnd.lookup c
theorem ks_NoEnd_ok (T : Txt K mg Z) : ∀ c b, ks_NoEnd c = some b → ExcC K (caZ Z c) ∧ PySem.W.kitOne K (.ref (caZ Z c)) (.ref Z.C_NoEnd) = some b :=
  ksOk (l := tb_is_NoEnd) (by simp only [tb_is_NoEnd, List.map_cons, List.map_nil, ca_BadText, ca_TooMany, ca_Twice, ca_NoClass, ca_NoOrder, ca_NotABase, ca_Final, ca_NotChained, ca_NotLawful, ca_BadKey, ca_BadName, ca_BadOrder, ca_BadDeed, ca_BadLimit, ca_Far, ca_Gap, ca_Long, ca_NoObject, ca_NoEnd]) (by
    unfold tb_is_NoEnd
    simp only [List.forall_mem_cons, List.not_mem_nil, false_imp_iff, implies_true, and_true]
    exact ⟨ecz_BadText T, ecz_TooMany T, ecz_Twice T, ecz_NoClass T, ecz_NoOrder T, ecz_NotABase T, ecz_Final T, ecz_NotChained T, ecz_NotLawful T, ecz_BadKey T, ecz_BadName T, ecz_BadOrder T, ecz_BadDeed T, ecz_BadLimit T, ecz_Far T, ecz_Gap T, ecz_Long T, ecz_NoObject T, ecz_NoEnd T⟩) T.is_NoEnd
def tb_is_EarlyError : List (Str × Bool) := [("BadText", true), ("TooMany", true), ("Twice", true), ("NoClass", true), ("NoOrder", true), ("NotABase", true), ("Final", true), ("NotChained", true), ("NotLawful", true), ("BadKey", true), ("BadName", true), ("BadOrder", true), ("BadDeed", true), ("BadLimit", true), ("Far", true), ("Gap", false), ("Long", false), ("NoObject", false), ("NoEnd", false)]
def ks_EarlyError : Str → Option Bool := fun c => tb_is_EarlyError.lookup c
theorem ks_EarlyError_ok (T : Txt K mg Z) : ∀ c b, ks_EarlyError c = some b → ExcC K (caZ Z c) ∧ PySem.W.kitOne K (.ref (caZ Z c)) (.ref Z.C_EarlyError) = some b :=
  ksOk (l := tb_is_EarlyError) (by simp only [tb_is_EarlyError, List.map_cons, List.map_nil, ca_BadText, ca_TooMany, ca_Twice, ca_NoClass, ca_NoOrder, ca_NotABase, ca_Final, ca_NotChained, ca_NotLawful, ca_BadKey, ca_BadName, ca_BadOrder, ca_BadDeed, ca_BadLimit, ca_Far, ca_Gap, ca_Long, ca_NoObject, ca_NoEnd]) (by
    unfold tb_is_EarlyError
    simp only [List.forall_mem_cons, List.not_mem_nil, false_imp_iff, implies_true, and_true]
    exact ⟨ecz_BadText T, ecz_TooMany T, ecz_Twice T, ecz_NoClass T, ecz_NoOrder T, ecz_NotABase T, ecz_Final T, ecz_NotChained T, ecz_NotLawful T, ecz_BadKey T, ecz_BadName T, ecz_BadOrder T, ecz_BadDeed T, ecz_BadLimit T, ecz_Far T, ecz_Gap T, ecz_Long T, ecz_NoObject T, ecz_NoEnd T⟩) T.is_EarlyError
def tb_is_ValueError : List (Str × Bool) := [("BadText", true), ("TooMany", true), ("Twice", true), ("NoClass", true), ("NoOrder", true), ("NotABase", true), ("Final", true), ("NotChained", true), ("NotLawful", true), ("BadKey", true), ("BadName", true), ("BadOrder", true), ("BadDeed", true), ("BadLimit", true), ("Far", true), ("Gap", false), ("Long", false), ("NoObject", false), ("NoEnd", false)]
def ks_ValueError : Str → Option Bool := fun c => tb_is_ValueError.lookup c
theorem ks_ValueError_ok (T : Txt K mg Z) : ∀ c b, ks_ValueError c = some b → ExcC K (caZ Z c) ∧ PySem.W.kitOne K (.ref (caZ Z c)) (.type "ValueError") = some b :=
  ksOk (l := tb_is_ValueError) (by simp only [tb_is_ValueError, List.map_cons, List.map_nil, ca_BadText, ca_TooMany, ca_Twice, ca_NoClass, ca_NoOrder, ca_NotABase, ca_Final, ca_NotChained, ca_NotLawful, ca_BadKey, ca_BadName, ca_BadOrder, ca_BadDeed, ca_BadLimit, ca_Far, ca_Gap, ca_Long, ca_NoObject, ca_NoEnd]) (by
    unfold tb_is_ValueError
    simp only [List.forall_mem_cons, List.not_mem_nil, false_imp_iff, implies_true, and_true]
    exact ⟨ecz_BadText T, ecz_TooMany T, ecz_Twice T, ecz_NoClass T, ecz_NoOrder T, ecz_NotABase T, ecz_Final T, ecz_NotChained T, ecz_NotLawful T, ecz_BadKey T, ecz_BadName T, ecz_BadOrder T, ecz_BadDeed T, ecz_BadLimit T, ecz_Far T, ecz_Gap T, ecz_Long T, ecz_NoObject T, ecz_NoEnd T⟩) T.is_ValueError
def tb_is_RuntimeError : List (Str × Bool) := [("BadText", false), ("TooMany", false), ("Twice", false), ("NoClass", false), ("NoOrder", false), ("NotABase", false), ("Final", false), ("NotChained", false), ("NotLawful", false), ("BadKey", false), ("BadName", false), ("BadOrder", false), ("BadDeed", false), ("BadLimit", false), ("Far", false), ("Gap", true), ("Long", true), ("NoObject", true), ("NoEnd", false)]
def ks_RuntimeError : Str → Option Bool := fun c => tb_is_RuntimeError.lookup c
theorem ks_RuntimeError_ok (T : Txt K mg Z) : ∀ c b, ks_RuntimeError c = some b → ExcC K (caZ Z c) ∧ PySem.W.kitOne K (.ref (caZ Z c)) (.type "RuntimeError") = some b :=
  ksOk (l := tb_is_RuntimeError) (by simp only [tb_is_RuntimeError, List.map_cons, List.map_nil, ca_BadText, ca_TooMany, ca_Twice, ca_NoClass, ca_NoOrder, ca_NotABase, ca_Final, ca_NotChained, ca_NotLawful, ca_BadKey, ca_BadName, ca_BadOrder, ca_BadDeed, ca_BadLimit, ca_Far, ca_Gap, ca_Long, ca_NoObject, ca_NoEnd]) (by
    unfold tb_is_RuntimeError
    simp only [List.forall_mem_cons, List.not_mem_nil, false_imp_iff, implies_true, and_true]
    exact ⟨ecz_BadText T, ecz_TooMany T, ecz_Twice T, ecz_NoClass T, ecz_NoOrder T, ecz_NotABase T, ecz_Final T, ecz_NotChained T, ecz_NotLawful T, ecz_BadKey T, ecz_BadName T, ecz_BadOrder T, ecz_BadDeed T, ecz_BadLimit T, ecz_Far T, ecz_Gap T, ecz_Long T, ecz_NoObject T, ecz_NoEnd T⟩) T.is_RuntimeError
def tb_is_LookupError : List (Str × Bool) := [("BadText", false), ("TooMany", false), ("Twice", false), ("NoClass", false), ("NoOrder", false), ("NotABase", false), ("Final", false), ("NotChained", false), ("NotLawful", false), ("BadKey", false), ("BadName", false), ("BadOrder", false), ("BadDeed", false), ("BadLimit", false), ("Far", false), ("Gap", false), ("Long", false), ("NoObject", false), ("NoEnd", true)]
def ks_LookupError : Str → Option Bool := fun c => tb_is_LookupError.lookup c
theorem ks_LookupError_ok (T : Txt K mg Z) : ∀ c b, ks_LookupError c = some b → ExcC K (caZ Z c) ∧ PySem.W.kitOne K (.ref (caZ Z c)) (.type "LookupError") = some b :=
  ksOk (l := tb_is_LookupError) (by simp only [tb_is_LookupError, List.map_cons, List.map_nil, ca_BadText, ca_TooMany, ca_Twice, ca_NoClass, ca_NoOrder, ca_NotABase, ca_Final, ca_NotChained, ca_NotLawful, ca_BadKey, ca_BadName, ca_BadOrder, ca_BadDeed, ca_BadLimit, ca_Far, ca_Gap, ca_Long, ca_NoObject, ca_NoEnd]) (by
    unfold tb_is_LookupError
    simp only [List.forall_mem_cons, List.not_mem_nil, false_imp_iff, implies_true, and_true]
    exact ⟨ecz_BadText T, ecz_TooMany T, ecz_Twice T, ecz_NoClass T, ecz_NoOrder T, ecz_NotABase T, ecz_Final T, ecz_NotChained T, ecz_NotLawful T, ecz_BadKey T, ecz_BadName T, ecz_BadOrder T, ecz_BadDeed T, ecz_BadLimit T, ecz_Far T, ecz_Gap T, ecz_Long T, ecz_NoObject T, ecz_NoEnd T⟩) T.is_LookupError
def tb_name : Str → Bool := fun c => [("Twice" : Str), ("NoClass" : Str), ("NoOrder" : Str), ("Final" : Str), ("NotChained" : Str), ("BadName" : Str), ("Gap" : Str)].any fun x => decide (c = x)
theorem tb_name_ok (T : Txt K mg Z) : ∀ c, tb_name c = true → ExcC K (caZ Z c) ∧ PySem.W.findIn K (.ref (caZ Z c)) "name" = some none := by
  intro c h
  simp only [tb_name, List.any_cons, List.any_nil, Bool.or_false, Bool.or_eq_true, decide_eq_true_eq] at h
  rcases h with rfl | rfl | rfl | rfl | rfl | rfl | rfl
  · exact ⟨ecz_Twice T, by rw [ca_Twice]; exact T.n_Twice_name⟩
  · exact ⟨ecz_NoClass T, by rw [ca_NoClass]; exact T.n_NoClass_name⟩
  · exact ⟨ecz_NoOrder T, by rw [ca_NoOrder]; exact T.n_NoOrder_name⟩
  · exact ⟨ecz_Final T, by rw [ca_Final]; exact T.n_Final_name⟩
  · exact ⟨ecz_NotChained T, by rw [ca_NotChained]; exact T.n_NotChained_name⟩
  · exact ⟨ecz_BadName T, by rw [ca_BadName]; exact T.n_BadName_name⟩
  · exact ⟨ecz_Gap T, by rw [ca_Gap]; exact T.n_Gap_name⟩
def tb_key : Str → Bool := fun c => [("NotABase" : Str), ("Final" : Str), ("NotChained" : Str), ("NotLawful" : Str), ("BadKey" : Str), ("Gap" : Str)].any fun x => decide (c = x)
theorem tb_key_ok (T : Txt K mg Z) : ∀ c, tb_key c = true → ExcC K (caZ Z c) ∧ PySem.W.findIn K (.ref (caZ Z c)) "key" = some none := by
  intro c h
  simp only [tb_key, List.any_cons, List.any_nil, Bool.or_false, Bool.or_eq_true, decide_eq_true_eq] at h
  rcases h with rfl | rfl | rfl | rfl | rfl | rfl
  · exact ⟨ecz_NotABase T, by rw [ca_NotABase]; exact T.n_NotABase_key⟩
  · exact ⟨ecz_Final T, by rw [ca_Final]; exact T.n_Final_key⟩
  · exact ⟨ecz_NotChained T, by rw [ca_NotChained]; exact T.n_NotChained_key⟩
  · exact ⟨ecz_NotLawful T, by rw [ca_NotLawful]; exact T.n_NotLawful_key⟩
  · exact ⟨ecz_BadKey T, by rw [ca_BadKey]; exact T.n_BadKey_key⟩
  · exact ⟨ecz_Gap T, by rw [ca_Gap]; exact T.n_Gap_key⟩
def tb_what : Str → Bool := fun c => [("TooMany" : Str)].any fun x => decide (c = x)
theorem tb_what_ok (T : Txt K mg Z) : ∀ c, tb_what c = true → ExcC K (caZ Z c) ∧ PySem.W.findIn K (.ref (caZ Z c)) "what" = some none := by
  intro c h
  simp only [tb_what, List.any_cons, List.any_nil, Bool.or_false, Bool.or_eq_true, decide_eq_true_eq] at h
  rcases h with rfl
  · exact ⟨ecz_TooMany T, by rw [ca_TooMany]; exact T.n_TooMany_what⟩
def tb_at : Str → Bool := fun c => [("BadText" : Str), ("BadDeed" : Str)].any fun x => decide (c = x)
theorem tb_at_ok (T : Txt K mg Z) : ∀ c, tb_at c = true → ExcC K (caZ Z c) ∧ PySem.W.findIn K (.ref (caZ Z c)) "at" = some none := by
  intro c h
  simp only [tb_at, List.any_cons, List.any_nil, Bool.or_false, Bool.or_eq_true, decide_eq_true_eq] at h
  rcases h with rfl | rfl
  · exact ⟨ecz_BadText T, by rw [ca_BadText]; exact T.n_BadText_at⟩
  · exact ⟨ecz_BadDeed T, by rw [ca_BadDeed]; exact T.n_BadDeed_at⟩
def tb_end : Str → Bool := fun c => [("NoEnd" : Str)].any fun x => decide (c = x)
theorem tb_end_ok (T : Txt K mg Z) : ∀ c, tb_end c = true → ExcC K (caZ Z c) ∧ PySem.W.findIn K (.ref (caZ Z c)) "end" = some none := by
  intro c h
  simp only [tb_end, List.any_cons, List.any_nil, Bool.or_false, Bool.or_eq_true, decide_eq_true_eq] at h
  rcases h with rfl
  · exact ⟨ecz_NoEnd T, by rw [ca_NoEnd]; exact T.n_NoEnd_end⟩
def tb_most : Str → Bool := fun c => [("Long" : Str)].any fun x => decide (c = x)
theorem tb_most_ok (T : Txt K mg Z) : ∀ c, tb_most c = true → ExcC K (caZ Z c) ∧ PySem.W.findIn K (.ref (caZ Z c)) "most" = some none := by
  intro c h
  simp only [tb_most, List.any_cons, List.any_nil, Bool.or_false, Bool.or_eq_true, decide_eq_true_eq] at h
  rcases h with rfl
  · exact ⟨ecz_Long T, by rw [ca_Long]; exact T.n_Long_most⟩
def tb_steps : Str → Bool := fun c => [("Far" : Str)].any fun x => decide (c = x)
theorem tb_steps_ok (T : Txt K mg Z) : ∀ c, tb_steps c = true → ExcC K (caZ Z c) ∧ PySem.W.findIn K (.ref (caZ Z c)) "steps" = some none := by
  intro c h
  simp only [tb_steps, List.any_cons, List.any_nil, Bool.or_false, Bool.or_eq_true, decide_eq_true_eq] at h
  rcases h with rfl
  · exact ⟨ecz_Far T, by rw [ca_Far]; exact T.n_Far_steps⟩
def tb_value : Str → Bool := fun c => [("BadOrder" : Str), ("BadLimit" : Str)].any fun x => decide (c = x)
theorem tb_value_ok (T : Txt K mg Z) : ∀ c, tb_value c = true → ExcC K (caZ Z c) ∧ PySem.W.findIn K (.ref (caZ Z c)) "value" = some none := by
  intro c h
  simp only [tb_value, List.any_cons, List.any_nil, Bool.or_false, Bool.or_eq_true, decide_eq_true_eq] at h
  rcases h with rfl | rfl
  · exact ⟨ecz_BadOrder T, by rw [ca_BadOrder]; exact T.n_BadOrder_value⟩
  · exact ⟨ecz_BadLimit T, by rw [ca_BadLimit]; exact T.n_BadLimit_value⟩
def tb_path : Str → Bool := fun c => [("NotABase" : Str), ("NotLawful" : Str), ("Gap" : Str)].any fun x => decide (c = x)
theorem tb_path_ok (T : Txt K mg Z) : ∀ c, tb_path c = true → ExcC K (caZ Z c) ∧ PySem.W.findIn K (.ref (caZ Z c)) "path" = some none := by
  intro c h
  simp only [tb_path, List.any_cons, List.any_nil, Bool.or_false, Bool.or_eq_true, decide_eq_true_eq] at h
  rcases h with rfl | rfl | rfl
  · exact ⟨ecz_NotABase T, by rw [ca_NotABase]; exact T.n_NotABase_path⟩
  · exact ⟨ecz_NotLawful T, by rw [ca_NotLawful]; exact T.n_NotLawful_path⟩
  · exact ⟨ecz_Gap T, by rw [ca_Gap]; exact T.n_Gap_path⟩
def tb_owner : Str → Bool := fun c => [("NotABase" : Str), ("NotLawful" : Str), ("Gap" : Str)].any fun x => decide (c = x)
theorem tb_owner_ok (T : Txt K mg Z) : ∀ c, tb_owner c = true → ExcC K (caZ Z c) ∧ PySem.W.findIn K (.ref (caZ Z c)) "owner" = some none := by
  intro c h
  simp only [tb_owner, List.any_cons, List.any_nil, Bool.or_false, Bool.or_eq_true, decide_eq_true_eq] at h
  rcases h with rfl | rfl | rfl
  · exact ⟨ecz_NotABase T, by rw [ca_NotABase]; exact T.n_NotABase_owner⟩
  · exact ⟨ecz_NotLawful T, by rw [ca_NotLawful]; exact T.n_NotLawful_owner⟩
  · exact ⟨ecz_Gap T, by rw [ca_Gap]; exact T.n_Gap_owner⟩
end
section
variable {P : Program} {w : World} {K : PySem.W.Frag} {mg : Str → Option Value} {base : Heap} {Z : Addrs}
theorem c_BadText___init__ (T : Txt K mg Z) : ExIni P w K mg base 1 Z.C_BadText (spExN Z.C_BadText ["at"]) := by
  refine exi_of T.d_BadText___init__ sc_BadText___init__ (fun vs H Q E h => ?_) (fun f cdv A outer s H vs Q E hr h => ?_)
  · obtain ⟨a, ws, rfl, h, _⟩ := h
    exact congrArg (· + 1) h
  · obtain ⟨a, ws, rfl, hl, ha, k⟩ := h
    obtain ⟨v0, rfl⟩ := ex_len1 hl
    refine ⟨_, (pss_one (ps_ostG (pv 0) (pv 1))), ?_⟩
    exact ⟨_, rfl, _, rfl, a, Z.C_BadText, rfl, T.y_BadText, T.n_BadText_at, .inl ⟨ha, fun dx hd ne => k dx hd ne⟩⟩
theorem c_TooMany___init__ (T : Txt K mg Z) : ExIni P w K mg base 1 Z.C_TooMany (spExN Z.C_TooMany ["what"]) := by
  refine exi_of T.d_TooMany___init__ sc_TooMany___init__ (fun vs H Q E h => ?_) (fun f cdv A outer s H vs Q E hr h => ?_)
  · obtain ⟨a, ws, rfl, h, _⟩ := h
    exact congrArg (· + 1) h
  · obtain ⟨a, ws, rfl, hl, ha, k⟩ := h
    obtain ⟨v0, rfl⟩ := ex_len1 hl
    refine ⟨_, (pss_one (ps_ostG (pv 0) (pv 1))), ?_⟩
    exact ⟨_, rfl, _, rfl, a, Z.C_TooMany, rfl, T.y_TooMany, T.n_TooMany_what, .inl ⟨ha, fun dx hd ne => k dx hd ne⟩⟩
theorem c_Twice___init__ (T : Txt K mg Z) : ExIni P w K mg base 1 Z.C_Twice (spExN Z.C_Twice ["name"]) := by
  refine exi_of T.d_Twice___init__ sc_Twice___init__ (fun vs H Q E h => ?_) (fun f cdv A outer s H vs Q E hr h => ?_)
  · obtain ⟨a, ws, rfl, h, _⟩ := h
    exact congrArg (· + 1) h
  · obtain ⟨a, ws, rfl, hl, ha, k⟩ := h
    obtain ⟨v0, rfl⟩ := ex_len1 hl
    refine ⟨_, (pss_one (ps_ostG (pv 0) (pv 1))), ?_⟩
    exact ⟨_, rfl, _, rfl, a, Z.C_Twice, rfl, T.y_Twice, T.n_Twice_name, .inl ⟨ha, fun dx hd ne => k dx hd ne⟩⟩
theorem c_NoClass___init__ (T : Txt K mg Z) : ExIni P w K mg base 1 Z.C_NoClass (spExN Z.C_NoClass ["name"]) := by
  refine exi_of T.d_NoClass___init__ sc_NoClass___init__ (fun vs H Q E h => ?_) (fun f cdv A outer s H vs Q E hr h => ?_)
  · obtain ⟨a, ws, rfl, h, _⟩ := h
    exact congrArg (· + 1) h
  · obtain ⟨a, ws, rfl, hl, ha, k⟩ := h
    obtain ⟨v0, rfl⟩ := ex_len1 hl
    refine ⟨_, (pss_one (ps_ostG (pv 0) (pv 1))), ?_⟩
    exact ⟨_, rfl, _, rfl, a, Z.C_NoClass, rfl, T.y_NoClass, T.n_NoClass_name, .inl ⟨ha, fun dx hd ne => k dx hd ne⟩⟩
theorem c_NoOrder___init__ (T : Txt K mg Z) : ExIni P w K mg base 1 Z.C_NoOrder (spExN Z.C_NoOrder ["name"]) := by
  refine exi_of T.d_NoOrder___init__ sc_NoOrder___init__ (fun vs H Q E h => ?_) (fun f cdv A outer s H vs Q E hr h => ?_)
  · obtain ⟨a, ws, rfl, h, _⟩ := h
    exact congrArg (· + 1) h
  · obtain ⟨a, ws, rfl, hl, ha, k⟩ := h
    obtain ⟨v0, rfl⟩ := ex_len1 hl
    refine ⟨_, (pss_one (ps_ostG (pv 0) (pv 1))), ?_⟩
    exact ⟨_, rfl, _, rfl, a, Z.C_NoOrder, rfl, T.y_NoOrder, T.n_NoOrder_name, .inl ⟨ha, fun dx hd ne => k dx hd ne⟩⟩
theorem c_NotABase___init__ (T : Txt K mg Z) : ExIni P w K mg base 1 Z.C_NotABase (spExN Z.C_NotABase ["owner", "key", "path"]) := by
  refine exi_of T.d_NotABase___init__ sc_NotABase___init__ (fun vs H Q E h => ?_) (fun f cdv A outer s H vs Q E hr h => ?_)
  · obtain ⟨a, ws, rfl, h, _⟩ := h
    exact congrArg (· + 1) h
  · obtain ⟨a, ws, rfl, hl, ha, k⟩ := h
    obtain ⟨v0, v1, v2, rfl⟩ := ex_len3 hl
    refine ⟨_, (pss_cons (ps_ostG (pv 0) (pv 1)) (pss_cons (ps_ostG (pv 0) (pv 2)) (pss_one (ps_ostG (pv 0) (pv 3))))), ?_⟩
    exact ⟨_, rfl, _, rfl, a, Z.C_NotABase, rfl, T.y_NotABase, T.n_NotABase_owner, .inl ⟨ha, fun dx hd ne => ⟨_, rfl, _, rfl, a, Z.C_NotABase, rfl, T.y_NotABase, T.n_NotABase_key, .inr ⟨dx, _, upd_same, exd_on1 ne, Nat.le_of_ble_eq_true rfl, ⟨_, rfl, _, rfl, a, Z.C_NotABase, rfl, T.y_NotABase, T.n_NotABase_path, .inr ⟨dx, _, exo_on1 ne, upd_same, Nat.le_of_ble_eq_true rfl, (by show Q V.non _; rw [upd_upd, exd_eq2 ne]; exact k dx hd ne)⟩⟩⟩⟩⟩⟩
theorem c_Final___init__ (T : Txt K mg Z) : ExIni P w K mg base 1 Z.C_Final (spExN Z.C_Final ["name", "key"]) := by
  refine exi_of T.d_Final___init__ sc_Final___init__ (fun vs H Q E h => ?_) (fun f cdv A outer s H vs Q E hr h => ?_)
  · obtain ⟨a, ws, rfl, h, _⟩ := h
    exact congrArg (· + 1) h
  · obtain ⟨a, ws, rfl, hl, ha, k⟩ := h
    obtain ⟨v0, v1, rfl⟩ := ex_len2 hl
    refine ⟨_, (pss_cons (ps_ostG (pv 0) (pv 1)) (pss_one (ps_ostG (pv 0) (pv 2)))), ?_⟩
    exact ⟨_, rfl, _, rfl, a, Z.C_Final, rfl, T.y_Final, T.n_Final_name, .inl ⟨ha, fun dx hd ne => ⟨_, rfl, _, rfl, a, Z.C_Final, rfl, T.y_Final, T.n_Final_key, .inr ⟨dx, _, upd_same, exd_on1 ne, Nat.le_of_ble_eq_true rfl, (by show Q V.non _; rw [exd_eq2 ne]; exact k dx hd ne)⟩⟩⟩⟩
theorem c_NotChained___init__ (T : Txt K mg Z) : ExIni P w K mg base 1 Z.C_NotChained (spExN Z.C_NotChained ["name", "key"]) := by
  refine exi_of T.d_NotChained___init__ sc_NotChained___init__ (fun vs H Q E h => ?_) (fun f cdv A outer s H vs Q E hr h => ?_)
  · obtain ⟨a, ws, rfl, h, _⟩ := h
    exact congrArg (· + 1) h
  · obtain ⟨a, ws, rfl, hl, ha, k⟩ := h
    obtain ⟨v0, v1, rfl⟩ := ex_len2 hl
    refine ⟨_, (pss_cons (ps_ostG (pv 0) (pv 1)) (pss_one (ps_ostG (pv 0) (pv 2)))), ?_⟩
    exact ⟨_, rfl, _, rfl, a, Z.C_NotChained, rfl, T.y_NotChained, T.n_NotChained_name, .inl ⟨ha, fun dx hd ne => ⟨_, rfl, _, rfl, a, Z.C_NotChained, rfl, T.y_NotChained, T.n_NotChained_key, .inr ⟨dx, _, upd_same, exd_on1 ne, Nat.le_of_ble_eq_true rfl, (by show Q V.non _; rw [exd_eq2 ne]; exact k dx hd ne)⟩⟩⟩⟩
theorem c_NotLawful___init__ (T : Txt K mg Z) : ExIni P w K mg base 1 Z.C_NotLawful (spExN Z.C_NotLawful ["owner", "key", "path"]) := by
  refine exi_of T.d_NotLawful___init__ sc_NotLawful___init__ (fun vs H Q E h => ?_) (fun f cdv A outer s H vs Q E hr h => ?_)
  · obtain ⟨a, ws, rfl, h, _⟩ := h
    exact congrArg (· + 1) h
  · obtain ⟨a, ws, rfl, hl, ha, k⟩ := h
    obtain ⟨v0, v1, v2, rfl⟩ := ex_len3 hl
    refine ⟨_, (pss_cons (ps_ostG (pv 0) (pv 1)) (pss_cons (ps_ostG (pv 0) (pv 2)) (pss_one (ps_ostG (pv 0) (pv 3))))), ?_⟩
    exact ⟨_, rfl, _, rfl, a, Z.C_NotLawful, rfl, T.y_NotLawful, T.n_NotLawful_owner, .inl ⟨ha, fun dx hd ne => ⟨_, rfl, _, rfl, a, Z.C_NotLawful, rfl, T.y_NotLawful, T.n_NotLawful_key, .inr ⟨dx, _, upd_same, exd_on1 ne, Nat.le_of_ble_eq_true rfl, ⟨_, rfl, _, rfl, a, Z.C_NotLawful, rfl, T.y_NotLawful, T.n_NotLawful_path, .inr ⟨dx, _, exo_on1 ne, upd_same, Nat.le_of_ble_eq_true rfl, (by show Q V.non _; rw [upd_upd, exd_eq2 ne]; exact k dx hd ne)⟩⟩⟩⟩⟩⟩
theorem c_BadKey___init__ (T : Txt K mg Z) : ExIni P w K mg base 1 Z.C_BadKey (spExN Z.C_BadKey ["key"]) := by
  refine exi_of T.d_BadKey___init__ sc_BadKey___init__ (fun vs H Q E h => ?_) (fun f cdv A outer s H vs Q E hr h => ?_)
  · obtain ⟨a, ws, rfl, h, _⟩ := h
    exact congrArg (· + 1) h
  · obtain ⟨a, ws, rfl, hl, ha, k⟩ := h
    obtain ⟨v0, rfl⟩ := ex_len1 hl
    refine ⟨_, (pss_one (ps_ostG (pv 0) (pv 1))), ?_⟩
    exact ⟨_, rfl, _, rfl, a, Z.C_BadKey, rfl, T.y_BadKey, T.n_BadKey_key, .inl ⟨ha, fun dx hd ne => k dx hd ne⟩⟩
theorem c_BadName___init__ (T : Txt K mg Z) : ExIni P w K mg base 1 Z.C_BadName (spExN Z.C_BadName ["name"]) := by
  refine exi_of T.d_BadName___init__ sc_BadName___init__ (fun vs H Q E h => ?_) (fun f cdv A outer s H vs Q E hr h => ?_)
  · obtain ⟨a, ws, rfl, h, _⟩ := h
    exact congrArg (· + 1) h
  · obtain ⟨a, ws, rfl, hl, ha, k⟩ := h
    obtain ⟨v0, rfl⟩ := ex_len1 hl
    refine ⟨_, (pss_one (ps_ostG (pv 0) (pv 1))), ?_⟩
    exact ⟨_, rfl, _, rfl, a, Z.C_BadName, rfl, T.y_BadName, T.n_BadName_name, .inl ⟨ha, fun dx hd ne => k dx hd ne⟩⟩
theorem c_BadOrder___init__ (T : Txt K mg Z) : ExIni P w K mg base 1 Z.C_BadOrder (spExN Z.C_BadOrder ["value"]) := by
  refine exi_of T.d_BadOrder___init__ sc_BadOrder___init__ (fun vs H Q E h => ?_) (fun f cdv A outer s H vs Q E hr h => ?_)
  · obtain ⟨a, ws, rfl, h, _⟩ := h
    exact congrArg (· + 1) h
  · obtain ⟨a, ws, rfl, hl, ha, k⟩ := h
    obtain ⟨v0, rfl⟩ := ex_len1 hl
    refine ⟨_, (pss_one (ps_ostG (pv 0) (pv 1))), ?_⟩
    exact ⟨_, rfl, _, rfl, a, Z.C_BadOrder, rfl, T.y_BadOrder, T.n_BadOrder_value, .inl ⟨ha, fun dx hd ne => k dx hd ne⟩⟩
theorem c_BadDeed___init__ (T : Txt K mg Z) : ExIni P w K mg base 1 Z.C_BadDeed (spExN Z.C_BadDeed ["at"]) := by
  refine exi_of T.d_BadDeed___init__ sc_BadDeed___init__ (fun vs H Q E h => ?_) (fun f cdv A outer s H vs Q E hr h => ?_)
  · obtain ⟨a, ws, rfl, h, _⟩ := h
    exact congrArg (· + 1) h
  · obtain ⟨a, ws, rfl, hl, ha, k⟩ := h
    obtain ⟨v0, rfl⟩ := ex_len1 hl
    refine ⟨_, (pss_one (ps_ostG (pv 0) (pv 1))), ?_⟩
    exact ⟨_, rfl, _, rfl, a, Z.C_BadDeed, rfl, T.y_BadDeed, T.n_BadDeed_at, .inl ⟨ha, fun dx hd ne => k dx hd ne⟩⟩
theorem c_BadLimit___init__ (T : Txt K mg Z) : ExIni P w K mg base 1 Z.C_BadLimit (spExN Z.C_BadLimit ["value"]) := by
  refine exi_of T.d_BadLimit___init__ sc_BadLimit___init__ (fun vs H Q E h => ?_) (fun f cdv A outer s H vs Q E hr h => ?_)
  · obtain ⟨a, ws, rfl, h, _⟩ := h
    exact congrArg (· + 1) h
  · obtain ⟨a, ws, rfl, hl, ha, k⟩ := h
    obtain ⟨v0, rfl⟩ := ex_len1 hl
    refine ⟨_, (pss_one (ps_ostG (pv 0) (pv 1))), ?_⟩
    exact ⟨_, rfl, _, rfl, a, Z.C_BadLimit, rfl, T.y_BadLimit, T.n_BadLimit_value, .inl ⟨ha, fun dx hd ne => k dx hd ne⟩⟩
theorem c_Far___init__ (T : Txt K mg Z) : ExIni P w K mg base 1 Z.C_Far (spExN Z.C_Far ["steps"]) := by
  refine exi_of T.d_Far___init__ sc_Far___init__ (fun vs H Q E h => ?_) (fun f cdv A outer s H vs Q E hr h => ?_)
  · obtain ⟨a, ws, rfl, h, _⟩ := h
    exact congrArg (· + 1) h
  · obtain ⟨a, ws, rfl, hl, ha, k⟩ := h
    obtain ⟨v0, rfl⟩ := ex_len1 hl
    refine ⟨_, (pss_one (ps_ostG (pv 0) (pv 1))), ?_⟩
    exact ⟨_, rfl, _, rfl, a, Z.C_Far, rfl, T.y_Far, T.n_Far_steps, .inl ⟨ha, fun dx hd ne => k dx hd ne⟩⟩
theorem c_Gap___init__ (T : Txt K mg Z) : ExIni P w K mg base 1 Z.C_Gap (spExN Z.C_Gap ["name", "owner", "key", "path"]) := by
  refine exi_of T.d_Gap___init__ sc_Gap___init__ (fun vs H Q E h => ?_) (fun f cdv A outer s H vs Q E hr h => ?_)
  · obtain ⟨a, ws, rfl, h, _⟩ := h
    exact congrArg (· + 1) h
  · obtain ⟨a, ws, rfl, hl, ha, k⟩ := h
    obtain ⟨v0, v1, v2, v3, rfl⟩ := ex_len4 hl
    refine ⟨_, (pss_cons (ps_ostG (pv 0) (pv 1)) (pss_cons (ps_ostG (pv 0) (pv 2)) (pss_cons (ps_ostG (pv 0) (pv 3)) (pss_one (ps_ostG (pv 0) (pv 4)))))), ?_⟩
    exact ⟨_, rfl, _, rfl, a, Z.C_Gap, rfl, T.y_Gap, T.n_Gap_name, .inl ⟨ha, fun dx hd ne => ⟨_, rfl, _, rfl, a, Z.C_Gap, rfl, T.y_Gap, T.n_Gap_owner, .inr ⟨dx, _, upd_same, exd_on1 ne, Nat.le_of_ble_eq_true rfl, ⟨_, rfl, _, rfl, a, Z.C_Gap, rfl, T.y_Gap, T.n_Gap_key, .inr ⟨dx, _, exo_on1 ne, upd_same, Nat.le_of_ble_eq_true rfl, ⟨_, rfl, _, rfl, a, Z.C_Gap, rfl, T.y_Gap, T.n_Gap_path, .inr ⟨dx, _, exo_on2 ne, upd_same, Nat.le_of_ble_eq_true rfl, (by show Q V.non _; rw [upd_upd, upd_upd, exd_eq2 ne]; exact k dx hd ne)⟩⟩⟩⟩⟩⟩⟩⟩
theorem c_Long___init__ (T : Txt K mg Z) : ExIni P w K mg base 1 Z.C_Long (spExN Z.C_Long ["most"]) := by
  refine exi_of T.d_Long___init__ sc_Long___init__ (fun vs H Q E h => ?_) (fun f cdv A outer s H vs Q E hr h => ?_)
  · obtain ⟨a, ws, rfl, h, _⟩ := h
    exact congrArg (· + 1) h
  · obtain ⟨a, ws, rfl, hl, ha, k⟩ := h
    obtain ⟨v0, rfl⟩ := ex_len1 hl
    refine ⟨_, (pss_one (ps_ostG (pv 0) (pv 1))), ?_⟩
    exact ⟨_, rfl, _, rfl, a, Z.C_Long, rfl, T.y_Long, T.n_Long_most, .inl ⟨ha, fun dx hd ne => k dx hd ne⟩⟩

theorem c_NoEnd___init__ (T : Txt K mg Z) : ExIni P w K mg base 1 Z.C_NoEnd (spExN Z.C_NoEnd ["end"]) := by
  refine exi_of T.d_NoEnd___init__ sc_NoEnd___init__ (fun vs H Q E h => ?_) (fun f cdv A outer s H vs Q E hr h => ?_)
  · obtain ⟨a, ws, rfl, h, _⟩ := h
    exact congrArg (· + 1) h
  · obtain ⟨a, ws, rfl, hl, ha, k⟩ := h
    obtain ⟨v0, rfl⟩ := ex_len1 hl
    refine ⟨_, (pss_one (ps_ostG (pv 0) (pv 1))), ?_⟩
    exact ⟨_, rfl, _, rfl, a, Z.C_NoEnd, rfl, T.y_NoEnd, T.n_NoEnd_end, .inl ⟨ha, fun dx hd ne => k dx hd ne⟩⟩
end
section
variable {P : Program} {w : World} {K : PySem.W.Frag} {mg : Str → Option Value} {base : Heap} {Z : Addrs}
noncomputable def b__law_bag : MS := (sSeq (sSet 2 (mIfE (tB' (m2 gLt (mV (mL 1)) (mV (mA gLen (mCons (mV (mL 0)) mNil))))) (m2 gIxL (mV (mL 0)) (mV (mL 1))) (mC (.int 0))))
    (sSeq (sSet 3 (m2 gAdd (mV (m2 gMul (mV (mC (.int 6151))) (mV (mL 1)))) (mV (mC (.int 389)))))
    (sSeq (sFor (mItA gEnumL (mCons (mV (m3 gSlL (mV (mL 0)) mNoPart (mPart (mC (.int 63))))) mNil)) (gTp 2 (gCo (gNm 4) (gCo (gNm 5) gNo)))
    (sSet 3 (m2 gMod (mV (mA gInt (mCons (mV (m2 gAdd (mV (m2 gAdd (mV (m2 gMul (mV (mL 3)) (mV (mC (.int 39373))))) (mV (m2 gMod (mV (mA gInt (mCons (mV (mL 5)) mNil))) (mV (mC (.int 2147483579))))))) (mV (m2 gMul (mV (mC (.int 57))) (mV (mL 4)))))) mNil))) (mV (mC (.int 2147483423))))))
    (sRetN (mLst (mCons (mV (mIfE (tB' (m2 gGe (mV (mA gAbs (mCons (mV (mL 2)) mNil))) (mV (m2 gPow (mV (mC (.int 10))) (mV (mC (.int 18))))))) (mA gAbs (mCons (mV (mL 2)) mNil)) (mC (.int 0)))) (mCons (mV (mL 3)) mNil)))))))
def k__law_bag : List Kd := [.v, .v]
noncomputable def m__law_bag : Mr := runM true k__law_bag 4 b__law_bag
theorem c__law_bag (T : Txt K mg Z) : Cal P w K mg base (1) "_law_bag" (spM K (caZ Z) k__law_bag true false m__law_bag) [] := by
  refine calM (ks := k__law_bag) (rn := true) (ms := b__law_bag) (ca := caZ Z) T.d__law_bag sc__law_bag rfl rfl fun f cdv A outer s H E hr => ⟨_, (C8.pss_cut (ps_set (i := 2) sc__law_bag.nd rfl (by first | exact Or.inl rfl | exact Or.inr rfl) (pe_ifExp (pt_cmpR op_lt (pv 1) (pe_callB call_len_seq (by rfl) T.b_len (by decide +kernel) (pa_cons (pv 0) pa_nil)) (nomark _)) (pe_ix ix_list (pv 0) (pv 1) (fun _ _ => rfl)) pe_int))
      (pss_cons (ps_set (i := 3) sc__law_bag.nd rfl (by first | exact Or.inl rfl | exact Or.inr rfl) (pe_op op_add (pe_op op_mul pe_int (pv 1)) pe_int))
      (pss_cons (ps_for PassesOwn.never rfl (pi_enum rfl T.b_enumerate (pa_cons (pe_slice sl_list (pv 0) po_none (po_some pe_int)) pa_nil)) (pg_tup (by rfl) (pgs_cons (pg_name (i := 4) sc__law_bag.nd rfl (by first | exact Or.inl rfl | exact Or.inr rfl)) (pgs_cons (pg_name (i := 5) sc__law_bag.nd rfl (by first | exact Or.inl rfl | exact Or.inr rfl)) pgs_nil))) (pss_one (ps_set (i := 3) sc__law_bag.nd rfl (by first | exact Or.inl rfl | exact Or.inr rfl) (pe_op op_mod (pe_callTy call_int1 (by rfl) T.b_int (by decide +kernel) (pa_cons (pe_op op_add (pe_op op_add (pe_op op_mul (pv 3) pe_int) (pe_op op_mod (pe_callTy call_int1 (by rfl) T.b_int (by decide +kernel) (pa_cons (pv 5) pa_nil)) pe_int)) (pe_op op_mul pe_int (pv 4))) pa_nil)) pe_int))))
      (pss_one (ps_ret (pe_lst (pa_cons (pe_ifExp (pt_cmpR op_ge (pe_callB call_abs (by rfl) T.b_abs (by decide +kernel) (pa_cons (pv 2) pa_nil)) (pe_op op_pow pe_int pe_int) (nomark _)) (pe_callB call_abs (by rfl) T.b_abs (by decide +kernel) (pa_cons (pv 2) pa_nil)) pe_int) (pa_cons (pv 3) pa_nil)))))))), fun H0 C B0 => ?_⟩
  exact (ss_cut (ss_set (se_if (st_test (se_2 g_lt (SE.pl (se_var 1)) (SE.pl (se_A a_len (sa_cons (SE.pl (se_var 0)) sa_nil))))) (se_2 g_ixL (SE.pl (se_var 0)) (SE.pl (se_var 1))) se_int))
      (ss_seq (ss_set (se_2 g_add (SE.pl (se_2 g_mul (SE.pl se_int) (SE.pl (se_var 1)))) (SE.pl se_int)))
      (ss_seq (ss_for (si_enum (sa_cons (SE.pl (SN.se (sn_slL (SE.pl (se_var 0)) so_no (so_part se_int)))) sa_nil)) (sg_tup (sgs_cons sg_name (sgs_cons sg_name sgs_nil))) (ss_set (se_2 g_mod (SE.pl (se_A a_int (sa_cons (SE.pl (se_2 g_add (SE.pl (se_2 g_add (SE.pl (se_2 g_mul (SE.pl (se_var 3)) (SE.pl se_int))) (SE.pl (se_2 g_mod (SE.pl (se_A a_int (sa_cons (SE.pl (se_var 5)) sa_nil))) (SE.pl se_int))))) (SE.pl (se_2 g_mul (SE.pl se_int) (SE.pl (se_var 4)))))) sa_nil))) (SE.pl se_int))))
      (ss_retN (sn_lst (sa_cons (SE.pl (se_if (st_test (se_2 g_ge (SE.pl (se_A a_abs (sa_cons (SE.pl (se_var 2)) sa_nil))) (SE.pl (se_2 g_pow (SE.pl se_int) (SE.pl se_int))))) (se_A a_abs (sa_cons (SE.pl (se_var 2)) sa_nil)) se_int)) (sa_cons (SE.pl (se_var 3)) sa_nil)))))))
noncomputable def b__law_draw : MS := (sSeq (sIf (tB' (m2 gGt (mV (m2 gIxL (mS 0) (mV (mC (.int 0))))) (mV (mC (.int 0)))))
    (sSeq (sSet 2 (m2 gMod (mV (mA gInt (mCons (mV (m2 gIxL (mS 0) (mV (mC (.int 0))))) mNil))) (mV (mL 1))))
    (sSeq (sSub gSetL 0 (mV (mC (.int 0))) (m2 gDivW (mV (m2 gIxL (mS 0) (mV (mC (.int 0))))) (mV (mL 1))))
    (sRet (mL 2))))
    sNx)
    (sSeq (sSub gSetL 0 (mV (mC (.int 1))) (m2 gMod (mV (mA gInt (mCons (mV (m2 gAdd (mV (m2 gMul (mV (m2 gIxL (mS 0) (mV (mC (.int 1))))) (mV (mC (.int 69621))))) (mV (mC (.int 40503))))) mNil))) (mV (mC (.int 2147483647)))))
    (sRet (m2 gMod (mV (m2 gDivW (mV (m2 gMod (mV (mA gInt (mCons (mV (m2 gMul (mV (m2 gDivW (mV (m2 gIxL (mS 0) (mV (mC (.int 1))))) (mV (mC (.int 13))))) (mV (mC (.int 16807))))) mNil))) (mV (mC (.int 2147483629))))) (mV (mC (.int 32))))) (mV (mL 1))))))
def k__law_draw : List Kd := [.i, .v]
noncomputable def m__law_draw : Mr := runM false k__law_draw 1 b__law_draw
theorem c__law_draw (T : Txt K mg Z) : Cal P w K mg base (1) "_law_draw" (spM K (caZ Z) k__law_draw false false m__law_draw) [] := by
  refine calM (ks := k__law_draw) (rn := false) (ms := b__law_draw) (ca := caZ Z) T.d__law_draw sc__law_draw rfl rfl fun f cdv A outer s H E hr => ⟨_, (pss_cons (ps_if (pt_cmpR op_gt (pe_ix ix_list (pv 0) pe_int (fun _ _ => rfl)) pe_int (nomark _)) (pss_cons (ps_set (i := 2) sc__law_draw.nd rfl (by first | exact Or.inl rfl | exact Or.inr rfl) (pe_op op_mod (pe_callTy call_int1 (by rfl) T.b_int (by decide +kernel) (pa_cons (pe_ix ix_list (pv 0) pe_int (fun _ _ => rfl)) pa_nil)) (pv 1)))
      (pss_cons (ps_asg (pe_op op_fdivW (pe_ix ix_list (pv 0) pe_int (fun _ _ => rfl)) (pv 1)) (pg_sub (pv 0) pe_int set_list))
      (pss_one (ps_ret (pv 2))))) pss_nil)
      (pss_cons (ps_asg (pe_op op_mod (pe_callTy call_int1 (by rfl) T.b_int (by decide +kernel) (pa_cons (pe_op op_add (pe_op op_mul (pe_ix ix_list (pv 0) pe_int (fun _ _ => rfl)) pe_int) pe_int) pa_nil)) pe_int) (pg_sub (pv 0) pe_int set_list))
      (pss_one (ps_ret (pe_op op_mod (pe_op op_fdivW (pe_op op_mod (pe_callTy call_int1 (by rfl) T.b_int (by decide +kernel) (pa_cons (pe_op op_mul (pe_op op_fdivW (pe_ix ix_list (pv 0) pe_int (fun _ _ => rfl)) pe_int) pe_int) pa_nil)) pe_int) pe_int) (pv 1)))))), fun H0 C B0 => ?_⟩
  exact (ss_seq (ss_if (st_test (se_2 g_gt (SE.pl (se_2 g_ixL (sp_slot 0) (SE.pl se_int))) (SE.pl se_int))) (ss_seq (ss_set (se_2 g_mod (SE.pl (se_A a_int (sa_cons (SE.pl (se_2 g_ixL (sp_slot 0) (SE.pl se_int))) sa_nil))) (SE.pl (se_var 1))))
      (ss_seq (ss_sub g_setL (se_2 g_divW (SE.pl (se_2 g_ixL (sp_slot 0) (SE.pl se_int))) (SE.pl (se_var 1))) (SE.pl se_int))
      (ss_ret (se_var 2)))) ss_nx)
      (ss_seq (ss_sub g_setL (se_2 g_mod (SE.pl (se_A a_int (sa_cons (SE.pl (se_2 g_add (SE.pl (se_2 g_mul (SE.pl (se_2 g_ixL (sp_slot 0) (SE.pl se_int))) (SE.pl se_int))) (SE.pl se_int))) sa_nil))) (SE.pl se_int)) (SE.pl se_int))
      (ss_ret (se_2 g_mod (SE.pl (se_2 g_divW (SE.pl (se_2 g_mod (SE.pl (se_A a_int (sa_cons (SE.pl (se_2 g_mul (SE.pl (se_2 g_divW (SE.pl (se_2 g_ixL (sp_slot 0) (SE.pl se_int))) (SE.pl se_int))) (SE.pl se_int))) sa_nil))) (SE.pl se_int))) (SE.pl se_int))) (SE.pl (se_var 1))))))
noncomputable def b__law_value : MS := (sSeq (sPar2 1 2 (mCons (mV (mCall k__law_draw m__law_draw (mCons (mS 0) (mCons (mV (mC (.int 6))) mNil)))) (mCons (mV (mCall k__law_draw m__law_draw (mCons (mS 0) (mCons (mV (m2 gPow (mV (mC (.int 10))) (mV (mC (.int 30))))) mNil)))) mNil)))
    (sSeq (sSet 3 (mLst (mCons (mV (mL 2)) (mCons (mV (m1 gNeg (mV (mL 2)))) (mCons (mV (mC .non)) (mCons (mV (mTup (mCons (mV (mL 2)) (mCons (mV (mC (.str (kwS "init")))) mNil)))) (mCons (mV (mC (.bl true))) (mCons (mV (m2 gCatS (mV (mC (.str (kwS "W")))) (mV (mA gStrI (mCons (mV (mL 2)) mNil))))) mNil))))))))
    (sRet (m2 gIxL (mV (mL 3)) (mV (mL 1))))))
def k__law_value : List Kd := [.i]
noncomputable def m__law_value : Mr := runM false k__law_value 3 b__law_value
theorem c__law_value (T : Txt K mg Z) : Cal P w K mg base (2) "_law_value" (spM K (caZ Z) k__law_value false false m__law_value) [] := by
  have c__law_draw := (c__law_draw (P := P) (w := w) (base := base) T)
  refine calM (ks := k__law_value) (rn := false) (ms := b__law_value) (ca := caZ Z) T.d__law_value sc__law_value rfl rfl fun f cdv A outer s H E hr => ⟨_, (pss_cons (ps_par (i := 1) (j := 2) (by rfl) sc__law_value.nd rfl rfl (by decide) rfl rfl (pa_cons (pe_c c__law_draw hr (by omega) rfl (pa_cons (pv 0) (pa_cons pe_int pa_nil))) (pa_cons (pe_c c__law_draw hr (by omega) rfl (pa_cons (pv 0) (pa_cons (pe_op op_pow pe_int pe_int) pa_nil))) pa_nil)) (by rfl))
      (pss_cons (ps_set (i := 3) sc__law_value.nd rfl (by first | exact Or.inl rfl | exact Or.inr rfl) (pe_lst (pa_cons (pv 2) (pa_cons (pe_un un_neg (pv 2)) (pa_cons pe_non (pa_cons (pe_tup (pa_cons (pv 2) (pa_cons pe_str pa_nil))) (pa_cons pe_bl (pa_cons (pe_op op_add_str pe_str (pe_callTy cr_strI (by rfl) T.b_str (by decide +kernel) (pa_cons (pv 2) pa_nil))) pa_nil))))))))
      (pss_one (ps_ret (pe_ix ix_list (pv 3) (pv 1) (fun _ _ => rfl)))))), fun H0 C B0 => ?_⟩
  exact (ss_seq (ss_par2 (sa_cons (SE.pl (se_call (sa_cons (sp_slot 0) (sa_cons (SE.pl se_int) sa_nil)))) (sa_cons (SE.pl (se_call (sa_cons (sp_slot 0) (sa_cons (SE.pl (se_2 g_pow (SE.pl se_int) (SE.pl se_int))) sa_nil)))) sa_nil)))
      (ss_seq (ss_set (SN.se (sn_lst (sa_cons (SE.pl (se_var 2)) (sa_cons (SE.pl (se_un g_neg (SE.pl (se_var 2)))) (sa_cons (SE.pl se_non) (sa_cons (SE.pl (se_tup (sa_cons (SE.pl (se_var 2)) (sa_cons (SE.pl (se_strK (by decide +kernel))) sa_nil)))) (sa_cons (SE.pl se_bl) (sa_cons (SE.pl (se_2 g_catS (SE.pl (se_strK (by decide +kernel))) (SE.pl (se_A a_strI (sa_cons (SE.pl (se_var 2)) sa_nil))))) sa_nil)))))))))
      (ss_ret (se_2 g_ixL (SE.pl (se_var 3)) (SE.pl (se_var 1))))))
noncomputable def b__law_kinds : MS := (sSeq (sSet 1 (mLst (mCons (mV (m1 (gIsG ks_BadText) (mV (mL 0)))) (mCons (mV (m1 (gIsG ks_TooMany) (mV (mL 0)))) (mCons (mV (m1 (gIsG ks_Twice) (mV (mL 0)))) (mCons (mV (m1 (gIsG ks_NoClass) (mV (mL 0)))) mNil))))))
    (sSeq (sSet 1 (m2 gCatL (mV (mL 1)) (mV (mLst (mCons (mV (m1 (gIsG ks_NoOrder) (mV (mL 0)))) (mCons (mV (m1 (gIsG ks_NotABase) (mV (mL 0)))) (mCons (mV (m1 (gIsG ks_Final) (mV (mL 0)))) (mCons (mV (m1 (gIsG ks_NotChained) (mV (mL 0)))) mNil))))))))
    (sSeq (sSet 1 (m2 gCatL (mV (mL 1)) (mV (mLst (mCons (mV (m1 (gIsG ks_NotLawful) (mV (mL 0)))) (mCons (mV (m1 (gIsG ks_BadKey) (mV (mL 0)))) (mCons (mV (m1 (gIsG ks_BadName) (mV (mL 0)))) (mCons (mV (m1 (gIsG ks_BadOrder) (mV (mL 0)))) mNil))))))))
    (sSeq (sSet 1 (m2 gCatL (mV (mL 1)) (mV (mLst (mCons (mV (m1 (gIsG ks_BadDeed) (mV (mL 0)))) (mCons (mV (m1 (gIsG ks_BadLimit) (mV (mL 0)))) (mCons (mV (m1 (gIsG ks_Far) (mV (mL 0)))) (mCons (mV (m1 (gIsG ks_Gap) (mV (mL 0)))) mNil))))))))
    (sSeq (sSet 1 (m2 gCatL (mV (mL 1)) (mV (mLst (mCons (mV (m1 (gIsG ks_Long) (mV (mL 0)))) (mCons (mV (m1 (gIsG ks_NoObject) (mV (mL 0)))) (mCons (mV (m1 (gIsG ks_NoEnd) (mV (mL 0)))) mNil)))))))
    (sRetN (mLc (mItA gEnumL (mCons (mV (mL 1)) mNil)) (gTp 2 (gCo (gNm 2) (gCo (gNm 3) gNo))) (tB' (mL 3)) (mL 2) [2, 3])))))))
def k__law_kinds : List Kd := [.v]
noncomputable def m__law_kinds : Mr := runM true k__law_kinds 3 b__law_kinds
theorem c__law_kinds (T : Txt K mg Z) : Cal P w K mg base (1) "_law_kinds" (spM K (caZ Z) k__law_kinds true false m__law_kinds) [] := by
  refine calM (ks := k__law_kinds) (rn := true) (ms := b__law_kinds) (ca := caZ Z) T.d__law_kinds sc__law_kinds rfl rfl fun f cdv A outer s H E hr => ⟨_, (pss_cons (ps_set (i := 1) sc__law_kinds.nd rfl (by first | exact Or.inl rfl | exact Or.inr rfl) (pe_lst (pa_cons (pe_isG (w := .ref Z.C_BadText) (cv := .ref Z.C_BadText) (fun u r => r) (by rfl) T.b_isinstance (pv 0) (pe_gc (v := .ref Z.C_BadText) rfl ⟨_, T.k_BadText, rfl⟩)) (pa_cons (pe_isG (w := .ref Z.C_TooMany) (cv := .ref Z.C_TooMany) (fun u r => r) (by rfl) T.b_isinstance (pv 0) (pe_gc (v := .ref Z.C_TooMany) rfl ⟨_, T.k_TooMany, rfl⟩)) (pa_cons (pe_isG (w := .ref Z.C_Twice) (cv := .ref Z.C_Twice) (fun u r => r) (by rfl) T.b_isinstance (pv 0) (pe_gc (v := .ref Z.C_Twice) rfl ⟨_, T.k_Twice, rfl⟩)) (pa_cons (pe_isG (w := .ref Z.C_NoClass) (cv := .ref Z.C_NoClass) (fun u r => r) (by rfl) T.b_isinstance (pv 0) (pe_gc (v := .ref Z.C_NoClass) rfl ⟨_, T.k_NoClass, rfl⟩)) pa_nil))))))
      (pss_cons (ps_set (i := 1) sc__law_kinds.nd rfl (by first | exact Or.inl rfl | exact Or.inr rfl) (pe_op op_cat (pv 1) (pe_lst (pa_cons (pe_isG (w := .ref Z.C_NoOrder) (cv := .ref Z.C_NoOrder) (fun u r => r) (by rfl) T.b_isinstance (pv 0) (pe_gc (v := .ref Z.C_NoOrder) rfl ⟨_, T.k_NoOrder, rfl⟩)) (pa_cons (pe_isG (w := .ref Z.C_NotABase) (cv := .ref Z.C_NotABase) (fun u r => r) (by rfl) T.b_isinstance (pv 0) (pe_gc (v := .ref Z.C_NotABase) rfl ⟨_, T.k_NotABase, rfl⟩)) (pa_cons (pe_isG (w := .ref Z.C_Final) (cv := .ref Z.C_Final) (fun u r => r) (by rfl) T.b_isinstance (pv 0) (pe_gc (v := .ref Z.C_Final) rfl ⟨_, T.k_Final, rfl⟩)) (pa_cons (pe_isG (w := .ref Z.C_NotChained) (cv := .ref Z.C_NotChained) (fun u r => r) (by rfl) T.b_isinstance (pv 0) (pe_gc (v := .ref Z.C_NotChained) rfl ⟨_, T.k_NotChained, rfl⟩)) pa_nil)))))))
      (pss_cons (ps_set (i := 1) sc__law_kinds.nd rfl (by first | exact Or.inl rfl | exact Or.inr rfl) (pe_op op_cat (pv 1) (pe_lst (pa_cons (pe_isG (w := .ref Z.C_NotLawful) (cv := .ref Z.C_NotLawful) (fun u r => r) (by rfl) T.b_isinstance (pv 0) (pe_gc (v := .ref Z.C_NotLawful) rfl ⟨_, T.k_NotLawful, rfl⟩)) (pa_cons (pe_isG (w := .ref Z.C_BadKey) (cv := .ref Z.C_BadKey) (fun u r => r) (by rfl) T.b_isinstance (pv 0) (pe_gc (v := .ref Z.C_BadKey) rfl ⟨_, T.k_BadKey, rfl⟩)) (pa_cons (pe_isG (w := .ref Z.C_BadName) (cv := .ref Z.C_BadName) (fun u r => r) (by rfl) T.b_isinstance (pv 0) (pe_gc (v := .ref Z.C_BadName) rfl ⟨_, T.k_BadName, rfl⟩)) (pa_cons (pe_isG (w := .ref Z.C_BadOrder) (cv := .ref Z.C_BadOrder) (fun u r => r) (by rfl) T.b_isinstance (pv 0) (pe_gc (v := .ref Z.C_BadOrder) rfl ⟨_, T.k_BadOrder, rfl⟩)) pa_nil)))))))
      (pss_cons (ps_set (i := 1) sc__law_kinds.nd rfl (by first | exact Or.inl rfl | exact Or.inr rfl) (pe_op op_cat (pv 1) (pe_lst (pa_cons (pe_isG (w := .ref Z.C_BadDeed) (cv := .ref Z.C_BadDeed) (fun u r => r) (by rfl) T.b_isinstance (pv 0) (pe_gc (v := .ref Z.C_BadDeed) rfl ⟨_, T.k_BadDeed, rfl⟩)) (pa_cons (pe_isG (w := .ref Z.C_BadLimit) (cv := .ref Z.C_BadLimit) (fun u r => r) (by rfl) T.b_isinstance (pv 0) (pe_gc (v := .ref Z.C_BadLimit) rfl ⟨_, T.k_BadLimit, rfl⟩)) (pa_cons (pe_isG (w := .ref Z.C_Far) (cv := .ref Z.C_Far) (fun u r => r) (by rfl) T.b_isinstance (pv 0) (pe_gc (v := .ref Z.C_Far) rfl ⟨_, T.k_Far, rfl⟩)) (pa_cons (pe_isG (w := .ref Z.C_Gap) (cv := .ref Z.C_Gap) (fun u r => r) (by rfl) T.b_isinstance (pv 0) (pe_gc (v := .ref Z.C_Gap) rfl ⟨_, T.k_Gap, rfl⟩)) pa_nil)))))))
      (pss_cons (ps_set (i := 1) sc__law_kinds.nd rfl (by first | exact Or.inl rfl | exact Or.inr rfl) (pe_op op_cat (pv 1) (pe_lst (pa_cons (pe_isG (w := .ref Z.C_Long) (cv := .ref Z.C_Long) (fun u r => r) (by rfl) T.b_isinstance (pv 0) (pe_gc (v := .ref Z.C_Long) rfl ⟨_, T.k_Long, rfl⟩)) (pa_cons (pe_isG (w := .ref Z.C_NoObject) (cv := .ref Z.C_NoObject) (fun u r => r) (by rfl) T.b_isinstance (pv 0) (pe_gc (v := .ref Z.C_NoObject) rfl ⟨_, T.k_NoObject, rfl⟩)) (pa_cons (pe_isG (w := .ref Z.C_NoEnd) (cv := .ref Z.C_NoEnd) (fun u r => r) (by rfl) T.b_isinstance (pv 0) (pe_gc (v := .ref Z.C_NoEnd) rfl ⟨_, T.k_NoEnd, rfl⟩)) pa_nil))))))
      (pss_one (ps_ret (pe_lc (own := [("at", 2), ("each", 3)]) (g := gTup K 2 (gCons (gName 2) (gCons (gName 3) gNil)))  rfl sc__law_kinds.nd (pi_enum rfl T.b_enumerate (pa_cons (pv 1) pa_nil)) (blkOk_by (N := ["e", "found", "at", "each"]) (sc := defScope s__law_kinds) (by decide +kernel)) (fun _ _ _ _ _ => (kx_pgT (K := K) rfl (pg_tup (by rfl) (pgs_cons (pg_name (i := 2) sc__law_kinds.nd rfl (by first | exact Or.inl rfl | exact Or.inr rfl)) (pgs_cons (pg_name (i := 3) sc__law_kinds.nd rfl (by first | exact Or.inl rfl | exact Or.inr rfl)) pgs_nil))))) (fun _ _ _ _ _ => pts_one (pt_val (pv 3))) (fun _ _ _ _ _ => (pv 2)))))))))), fun H0 C B0 => ?_⟩
  exact (ss_seq (ss_set (SN.se (sn_lst (sa_cons (SE.pl (se_1 (g_isG (ks_BadText_ok T)) (SE.pl (se_var 0)))) (sa_cons (SE.pl (se_1 (g_isG (ks_TooMany_ok T)) (SE.pl (se_var 0)))) (sa_cons (SE.pl (se_1 (g_isG (ks_Twice_ok T)) (SE.pl (se_var 0)))) (sa_cons (SE.pl (se_1 (g_isG (ks_NoClass_ok T)) (SE.pl (se_var 0)))) sa_nil)))))))
      (ss_seq (ss_set (SN.se (sn_2 n_catL (SE.pl (se_var 1)) (SE.pl (SN.se (sn_lst (sa_cons (SE.pl (se_1 (g_isG (ks_NoOrder_ok T)) (SE.pl (se_var 0)))) (sa_cons (SE.pl (se_1 (g_isG (ks_NotABase_ok T)) (SE.pl (se_var 0)))) (sa_cons (SE.pl (se_1 (g_isG (ks_Final_ok T)) (SE.pl (se_var 0)))) (sa_cons (SE.pl (se_1 (g_isG (ks_NotChained_ok T)) (SE.pl (se_var 0)))) sa_nil))))))))))
      (ss_seq (ss_set (SN.se (sn_2 n_catL (SE.pl (se_var 1)) (SE.pl (SN.se (sn_lst (sa_cons (SE.pl (se_1 (g_isG (ks_NotLawful_ok T)) (SE.pl (se_var 0)))) (sa_cons (SE.pl (se_1 (g_isG (ks_BadKey_ok T)) (SE.pl (se_var 0)))) (sa_cons (SE.pl (se_1 (g_isG (ks_BadName_ok T)) (SE.pl (se_var 0)))) (sa_cons (SE.pl (se_1 (g_isG (ks_BadOrder_ok T)) (SE.pl (se_var 0)))) sa_nil))))))))))
      (ss_seq (ss_set (SN.se (sn_2 n_catL (SE.pl (se_var 1)) (SE.pl (SN.se (sn_lst (sa_cons (SE.pl (se_1 (g_isG (ks_BadDeed_ok T)) (SE.pl (se_var 0)))) (sa_cons (SE.pl (se_1 (g_isG (ks_BadLimit_ok T)) (SE.pl (se_var 0)))) (sa_cons (SE.pl (se_1 (g_isG (ks_Far_ok T)) (SE.pl (se_var 0)))) (sa_cons (SE.pl (se_1 (g_isG (ks_Gap_ok T)) (SE.pl (se_var 0)))) sa_nil))))))))))
      (ss_seq (ss_set (SN.se (sn_2 n_catL (SE.pl (se_var 1)) (SE.pl (SN.se (sn_lst (sa_cons (SE.pl (se_1 (g_isG (ks_Long_ok T)) (SE.pl (se_var 0)))) (sa_cons (SE.pl (se_1 (g_isG (ks_NoObject_ok T)) (SE.pl (se_var 0)))) (sa_cons (SE.pl (se_1 (g_isG (ks_NoEnd_ok T)) (SE.pl (se_var 0)))) sa_nil)))))))))
      (ss_retN (sn_lc (si_enum (sa_cons (SE.pl (se_var 1)) sa_nil)) (sg_tup (sgs_cons sg_name (sgs_cons sg_name sgs_nil))) (by decide) (st_B (se_var 3)) (se_var 2))))))))
end
/-! ### 0d. an error of our own that a suite holds: its class asked, its field read -/
/-- isinstance(e, c), e an error of the class at D with its own dict -/
def rIsED (K : PySem.W.Frag) (D a : Addr) (cls : Value) (d : Option Addr) : List V → Hp → VK → Prop := fun xs H Q => cls = .ref D ∧ ∃ (dd : Addr) (fs : List (Str × V)) (c : V) (cv : Value) (b : Bool), d = some dd ∧ H dd = some (.xd fs) ∧
  xs = [.ref a, c] ∧ (∀ u, RelV c u → u = cv) ∧ PySem.W.kitOne K (.ref D) cv = some b ∧ Q (.bl b) H
section
variable {X : Cx} {a D : Addr} {oe : Obj} {pn : List (Addr × Obj)} {cls : Value} {d : Option Addr}
theorem instE {pins : List (Addr × Obj)} {s : Shared} {σ : L2.St} {H : Hp} (hz : Zc cls d oe) (hf : ∃ vs, oe.data = .fields vs) (I : Inv (X.suite a ((a, oe) :: pn)) pins σ H s) {dd : Addr} {fs : List (Str × V)} (ec : cls = .ref D) (ed : d = some dd) (hd : H dd = some (.xd fs)) :
    ∃ (od : Obj) (mA : Str → Option Value), PySem.W.InstAt s.heap a oe D (some od) ∧ (∀ f, PySem.W.lookIn f od = some (mA f)) ∧ ∀ f, RelO (fs.lookup f) (mA f) := by
  obtain ⟨hget, _⟩ := I.pin (a, oe) (List.mem_append.mpr (.inl List.mem_cons_self))
  obtain ⟨vs, hv⟩ := hf
  obtain ⟨mA, hns, hr⟩ := I.hok dd _ hd
  obtain ⟨od, ho, hl⟩ := lookIn_ns hns
  refine ⟨od, mA, ⟨hget, hz.1.trans ec, by unfold PySem.W.notCls; rw [hv] <;> rfl, ?_⟩, hl, hr⟩
  rw [hz.2, ed]
  exact ho
theorem call_isED (C : ExcC X.K D) (hz : Zc cls d oe) (hf : ∃ vs, oe.data = .fields vs) : CallR (X.suite a ((a, oe) :: pn)) (.builtin "isinstance") (rIsED X.K D a cls d) := by
  intro pins s σ H xs us Q I r h
  obtain ⟨hc, dd, fs, c, cv, b, hd, hH, rfl, hcv, e, q⟩ := h
  cases r with
  | cons rx rr =>
    cases rr with
    | cons rt rr =>
      cases rr
      cases rx
      have ec := hcv _ rt
      subst ec
      obtain ⟨od, mA, J, _⟩ := instE hz hf I hc hd hH
      have hcl : (PySem.W.clsIn X.K D).isSome = true := by
        obtain ⟨cd, hcd, _⟩ := PySem.W.any_some C.hd
        rw [hcd]
        rfl
      exact PySem.W.kia_one (PySem.W.kitx_exc hcl C.hg C.hk C.hs C.ha C.hn C.ht C.hm) I.kIn J e (fun z => nomatch z) fun tk => ⟨.bl b, H, I.kept (t' := tk) fun _ _ z => z, rfl, q⟩
/-- e.f -/
def tFE (f : Str) (D a : Addr) (cls : Value) (d : Option Addr) (te : TE) : TE := fun σ H Q => te σ H fun x H1 => x = .ref a ∧ cls = .ref D ∧ ∃ (dd : Addr) (fs : List (Str × V)) (v : V), d = some dd ∧ H1 dd = some (.xd fs) ∧ fs.lookup f = some v ∧ Q v H1
theorem pe_fE {e : Expr} {te : TE} {pos : Pos} {f : Str} (C : ExcC X.K D) (nf : PySem.W.findIn X.K (.ref D) f = some none) (hz : Zc cls d oe) (hf : ∃ vs, oe.data = .fields vs) (he : PE (X.suite a ((a, oe) :: pn)) e te)
    (hb : attributeBase e f X.env (eval e X.env) = eval e X.env := by rfl) : PE (X.suite a ((a, oe) :: pn)) (.Attribute e f pos) (tFE f D a cls d te) := by
  refine ⟨fun pins s σ H Q I h => ?_⟩
  refine attr_of hb (thn (he.run pins s σ H _ I h) fun u s1 hh => ?_)
  obtain ⟨x, H1, I1, rx, ex, ec, dd, fs, v, ed, ea, el, q⟩ := hh
  subst ex
  obtain rfl : u = Value.ref a := rx
  obtain ⟨od, mA, J, hl, hr⟩ := instE hz hf I1 ec ed ea
  obtain ⟨w, hw, rw'⟩ := RelO.some_of (v := v) (o := mA f) (by rw [← el]; exact hr f)
  exact HandSPX.exc_get I1.kIn J C.hg C.hk C.hs (PySem.W.findObj_own C.hd nf rfl (by rw [hl, hw])) (handed_of rw') ⟨v, H1, I1.tok _, rw', q⟩
end
section
variable {X : Cx} {k j : Nat} {x : Str} {sp : Sp} {E : L2.St → XK} {p pos : Pos} {e : Expr} {es : List Expr} {t : TA}
/-- f(e, ..) in a try -/
theorem pe_cXS (c : CalX X.prog X.w X.K X.mg X.base k x sp) (hr : Room j X.A) (hk : k ≤ j) (hg : Gl X x) (hx : ∀ σ, PassesAt (L2.CX X.prog X.w) X σ (E σ)) (ha : PA X (e :: es) t) (hdb : (x == ("__debug__" : Str)) = false := by decide)
    (he : starEach (e :: es) X.env = (false, eval e X.env) :: starEach es X.env := by rfl) (hpl : (backTo pos (starEach es X.env)).any (·.1) = false := by rfl) : PE X (.Call (.Name x p) (e :: es) [] pos) (tCallS sp E t) := by
  obtain ⟨f, fd, ps, F, hm, kp, b⟩ := c.ex
  exact pe_callS F (hr.mono hk) hg hm kp b hx ha hdb he hpl
end

section
variable {P : Program} {w : World} {K : PySem.W.Frag} {mg : Str → Option Value} {base : Heap} {Z : Addrs}
/-- what a tuple of read values prints as -/
theorem tupRepr {ca : Str → Addr} {ts : TA} {σ : L2.St} {H : Hp} {vs : List V} {ds : List D} {x : Str} {Q : VK} (hy : ∀ {H : Hp} {v : V} (Q : VK), Rep K ca H v (.tup ds) → Q (.str x) H → ReprD K [v] H Q) (ht : ∀ R : List V → Hp → Prop, R vs H → ts σ H R)
    (r : RepA K ca H vs ds) (hl : ds.length ≤ 100) (q : ∀ H', SameH H H' → Q (.str x) H') : tCB (ReprD K) (tCons (tTup ts) tNil) σ H Q := by
  refine ht _ ⟨?_, fun p hp => hy _ (.tup upd_same (r.up (SameH.new hp))) (q _ (SameH.new hp))⟩
  rw [r.len, sizeLine_eq]
  omega
def lt0 (i : Nat) (n : Int) : TE := tOp (rI0 fun i j => V.bl (decide (i < j))) (tVar i) (tC (V.int n))
def rs0 (C : Addr) (fl : List Str) (t : TA) (EE : XK) : TS := fun _ σ H => tMkO C (spExN C fl) [] t σ H fun cls d H' => EE cls d H'
def ta2 : TA := tCons (tVar 1) (tCons (tVar 2) tNil)
def ta4 : TA := tCons (tVar 1) (tCons (tVar 2) (tCons (tVar 3) (tCons (tVar 4) tNil)))
def tb__law_raised (K : PySem.W.Frag) (Z : Addrs) (EE : XK) : TS :=
  tSeq (tIfS (tTest (tOp (rI0 fun i j => V.bl (decide (i < j))) (tVar 0) (tC (V.int 4)))) (rs0 Z.C_Final ["name", "key"] (tCons (tVar 1) (tCons (tVar 2) tNil)) EE) tNext)
    (tSeq (tIfS (tTest (tOp (rI0 fun i j => V.bl (decide (i < j))) (tVar 0) (tC (V.int 8)))) (rs0 Z.C_NotChained ["name", "key"] (tCons (tVar 1) (tCons (tVar 2) tNil)) EE) tNext)
      (tSeq (tIfS (tTest (tOp (rI0 fun i j => V.bl (decide (i < j))) (tVar 0) (tC (V.int 12)))) (rs0 Z.C_Gap ["name", "owner", "key", "path"] (tCons (tVar 1) (tCons (tVar 2) (tCons (tVar 3) (tCons (tVar 4) tNil)))) EE) tNext)
        (rs0 Z.C_NoEnd ["end"] (tCons (tVar 1) tNil) EE)))
def fe (f : Str) (C a : Addr) (cls : Value) (d : Option Addr) : TE := tFE f C a cls d (tVar 6)
def cls4 (K : PySem.W.Frag) (Z : Addrs) : List Cls :=
  [(Value.ref Z.C_Final, 6, fun a cls d => tRet (tAndV (tOp rEq (tCB (ReprD K) (tCons (tTup (tCons (tFE "name" Z.C_Final a cls d (tVar 6)) (tCons (tFE "key" Z.C_Final a cls d (tVar 6)) tNil))) tNil)) (tCB (ReprD K) (tCons (tTup (tCons (tVar 1) (tCons (tVar 2) tNil))) tNil))) (tOp (rI0 fun i j => V.bl (decide (i < j))) (tVar 0) (tC (V.int 4))))),
   (Value.ref Z.C_NotChained, 6, fun a cls d => tRet (tAndV (tOp rEq (tCB (ReprD K) (tCons (tTup (tCons (tFE "name" Z.C_NotChained a cls d (tVar 6)) (tCons (tFE "key" Z.C_NotChained a cls d (tVar 6)) tNil))) tNil)) (tCB (ReprD K) (tCons (tTup (tCons (tVar 1) (tCons (tVar 2) tNil))) tNil))) (tChain (rI0 fun i j => V.bl (decide (i < j))) (rI0 fun i j => V.bl (decide (i < j))) (tC (V.int 3)) (tVar 0) (tC (V.int 8))))),
   (Value.ref Z.C_Gap, 6, fun a cls d => tSeq (tAsg (tTup (tCons (tFE "name" Z.C_Gap a cls d (tVar 6)) (tCons (tFE "owner" Z.C_Gap a cls d (tVar 6)) (tCons (tFE "key" Z.C_Gap a cls d (tVar 6)) (tCons (tFE "path" Z.C_Gap a cls d (tVar 6)) tNil))))) (gName 5))
     (tRet (tAndV (tOp rEq (tCB (ReprD K) (tCons (tVar 5) tNil)) (tCB (ReprD K) (tCons (tTup (tCons (tVar 1) (tCons (tVar 2) (tCons (tVar 3) (tCons (tVar 4) tNil))))) tNil))) (tChain (rI0 fun i j => V.bl (decide (i < j))) (rI0 fun i j => V.bl (decide (i < j))) (tC (V.int 7)) (tVar 0) (tC (V.int 12)))))),
   (Value.ref Z.C_NoEnd, 6, fun a cls d => tRet (tAndV (tOp rEq (tCB (ReprD K) (tCons (tFE "end" Z.C_NoEnd a cls d (tVar 6)) tNil)) (tCB (ReprD K) (tCons (tVar 1) tNil))) (tOp (rI0 fun i j => V.bl (decide (j < i))) (tVar 0) (tC (V.int 11)))))]
open Classical in
noncomputable def mhR (c : Str) (fs : List (Str × D)) (ρ : Env') : Out := match ρ with
  | [.v (.int n), .v x1, .v x2, .v x3, .v x4, .e, .e] =>
    if (c = "Final" ∧ n < 4 ∧ fs.lookup ("name" : Str) = some x1 ∧ fs.lookup ("key" : Str) = some x2 ∧ (gRepr [.tup [x1, x2]]).isSome = true) ∨
      (c = "NotChained" ∧ 3 < n ∧ n < 8 ∧ fs.lookup ("name" : Str) = some x1 ∧ fs.lookup ("key" : Str) = some x2 ∧ (gRepr [.tup [x1, x2]]).isSome = true) ∨
      (c = "Gap" ∧ 7 < n ∧ n < 12 ∧ fs.lookup ("name" : Str) = some x1 ∧ fs.lookup ("owner" : Str) = some x2 ∧ fs.lookup ("key" : Str) = some x3 ∧ fs.lookup ("path" : Str) = some x4 ∧ (gRepr [.tup [x1, x2, x3, x4]]).isSome = true) ∨
      (c = "NoEnd" ∧ 11 < n ∧ fs.lookup ("end" : Str) = some x1 ∧ (gRepr [x1]).isSome = true) then .rt false (.bl true) ρ else .no
  | _ => .no
noncomputable def mh__law_raised : Str → List (Str × D) → MS := fun c fs ρ => mhR c fs ρ
theorem hs__law_raised (T : Txt K mg Z) {H0 : Hp} {C : Nat → Option Addr} {B0 : Addr → Bool} {EE : XK} : HsOkM ⟨K, caZ Z, H0, C, B0, EE⟩ (cls4 K Z) mh__law_raised := by
  intro c fs dx fv H' ρ σ W I ho hd hk hr q
  unfold mh__law_raised mhR at q
  split at q
  · rename_i n x1 x2 x3 x4
    split at q
    · rename_i hc
      obtain ⟨v0, s0, r0⟩ := I.getV (i := 0) (d := .int n) rfl
      obtain ⟨v1, s1, r1⟩ := I.getV (i := 1) (d := x1) rfl
      obtain ⟨v2, s2, r2⟩ := I.getV (i := 2) (d := x2) rfl
      obtain ⟨v3, s3, r3⟩ := I.getV (i := 3) (d := x3) rfl
      obtain ⟨v4, s4, r4⟩ := I.getV (i := 4) (d := x4) rfl
      obtain rfl : v0 = .int n := by cases r0; rfl
      have l6 : 6 < σ.length := by rw [← I.ln]; exact Nat.le_of_ble_eq_true rfl
      have ne : ∀ (a : Addr) (j : Nat), j ≠ 6 → (σ.set 6 (some (V.ref a)))[j]? = σ[j]? := fun a j h => List.getElem?_set_ne (Ne.symm h)
      have t6 : ∀ a : Addr, (σ.set 6 (some (V.ref a)))[6]? = some (some (V.ref a)) := fun a => List.getElem?_set_self l6
      have fin : ∀ (b : Bool) (H'' : Hp), SameH H' H'' → b = true → W.rt (.bl b) H'' := fun b H'' s e => by
        subst e
        exact q _ σ B0 H'' (I.grow s) (mask_up s) (.bl true)
      have look : ∀ (f : Str) (x : D), fs.lookup f = some x → ∃ v, fv.lookup f = some v ∧ Rep K (caZ Z) H' v x := fun f x e => by
        obtain ⟨v, ev, rv⟩ := (look_rep (f := f) hk hr).1 _ e
        exact ⟨v, ev, rv.up mask_le⟩
      have R1 := r1.up mask_le
      have R2 := r2.up mask_le
      have R3 := r3.up mask_le
      have R4 := r4.up mask_le
      rcases hc with ⟨rfl, hn, l1, l2, hre⟩ | ⟨rfl, hm, hn, l1, l2, hre⟩ | ⟨rfl, hm, hn, l1, l2, l3, l4, hre⟩ | ⟨rfl, hn, l1, hre⟩
      · obtain ⟨s, es⟩ := Option.isSome_iff_exists.mp hre
        obtain ⟨y, hy⟩ := gRepr_rep (K := K) (ca := caZ Z) es
        obtain ⟨u1, e1, g1⟩ := look _ _ l1
        obtain ⟨u2, e2, g2⟩ := look _ _ l2
        show wAsM K W _ (Value.ref (caZ Z "Final")) (some dx) σ H'
        rw [ca_Final]
        refine ⟨true, T.em_Final_Final, fun _ a ha => ?_, fun q => Bool.noConfusion q⟩
        refine tupRepr hy (fun R hR => ⟨_, t6 a, rfl, rfl, dx, fv, u1, rfl, hd, e1, _, t6 a, rfl, rfl, dx, fv, u2, rfl, hd, e2, hR⟩) (.cons g1 (.cons g2 .nil)) (Nat.le_of_ble_eq_true rfl) fun H1 z1 => ?_
        refine tupRepr hy (fun R hR => ⟨_, (ne a 1 (by decide)).trans s1, _, (ne a 2 (by decide)).trans s2, hR⟩) (.cons (R1.up z1) (.cons (R2.up z1) .nil)) (Nat.le_of_ble_eq_true rfl) fun H2 z2 => ⟨rfl, true, by rw [decide_eq_true rfl], iteT ?_⟩
        exact ⟨_, (ne a 0 (by decide)).trans s0, n, 4, rfl, rfl, fin _ _ (z1.tr z2) (decide_eq_true hn)⟩
      · obtain ⟨s, es⟩ := Option.isSome_iff_exists.mp hre
        obtain ⟨y, hy⟩ := gRepr_rep (K := K) (ca := caZ Z) es
        obtain ⟨u1, e1, g1⟩ := look _ _ l1
        obtain ⟨u2, e2, g2⟩ := look _ _ l2
        show wAsM K W _ (Value.ref (caZ Z "NotChained")) (some dx) σ H'
        rw [ca_NotChained]
        refine ⟨false, T.em_NotChained_Final, fun q => Bool.noConfusion q, fun _ => ⟨true, T.em_NotChained_NotChained, fun _ a ha => ?_, fun q => Bool.noConfusion q⟩⟩
        refine tupRepr hy (fun R hR => ⟨_, t6 a, rfl, rfl, dx, fv, u1, rfl, hd, e1, _, t6 a, rfl, rfl, dx, fv, u2, rfl, hd, e2, hR⟩) (.cons g1 (.cons g2 .nil)) (Nat.le_of_ble_eq_true rfl) fun H1 z1 => ?_
        refine tupRepr hy (fun R hR => ⟨_, (ne a 1 (by decide)).trans s1, _, (ne a 2 (by decide)).trans s2, hR⟩) (.cons (R1.up z1) (.cons (R2.up z1) .nil)) (Nat.le_of_ble_eq_true rfl) fun H2 z2 => ⟨rfl, true, by rw [decide_eq_true rfl], iteT ?_⟩
        refine ⟨_, (ne a 0 (by decide)).trans s0, 3, n, rfl, rfl, true, congrArg V.bl (decide_eq_true hm), iteT ?_⟩
        exact ⟨n, 8, rfl, rfl, fin _ _ (z1.tr z2) (decide_eq_true hn)⟩
      · obtain ⟨s, es⟩ := Option.isSome_iff_exists.mp hre
        obtain ⟨y, hy⟩ := gRepr_rep (K := K) (ca := caZ Z) es
        obtain ⟨u1, e1, g1⟩ := look _ _ l1
        obtain ⟨u2, e2, g2⟩ := look _ _ l2
        obtain ⟨u3, e3, g3⟩ := look _ _ l3
        obtain ⟨u4, e4, g4⟩ := look _ _ l4
        show wAsM K W _ (Value.ref (caZ Z "Gap")) (some dx) σ H'
        rw [ca_Gap]
        refine ⟨false, T.em_Gap_Final, fun q => Bool.noConfusion q, fun _ => ⟨false, T.em_Gap_NotChained, fun q => Bool.noConfusion q, fun _ => ⟨true, T.em_Gap_Gap, fun _ a ha => ?_, fun q => Bool.noConfusion q⟩⟩⟩
        refine ⟨_, t6 a, rfl, rfl, dx, fv, u1, rfl, hd, e1, _, t6 a, rfl, rfl, dx, fv, u2, rfl, hd, e2, _, t6 a, rfl, rfl, dx, fv, u3, rfl, hd, e3, _, t6 a, rfl, rfl, dx, fv, u4, rfl, hd, e4, Nat.le_of_ble_eq_true rfl, fun p hp => ?_⟩
        have l5 : 5 < (σ.set 6 (some (V.ref a))).length := by rw [List.length_set]; omega
        have ne5 : ∀ (j : Nat), j ≠ 6 → j ≠ 5 → ((σ.set 6 (some (V.ref a))).set 5 (some (V.ref p)))[j]? = σ[j]? := fun j h h5 => (List.getElem?_set_ne (Ne.symm h5)).trans (ne a j h)
        have z1 : SameH H' (upd H' p (.tup [u1, u2, u3, u4])) := SameH.new hp
        refine ⟨_, List.getElem?_set_self l5, ?_⟩
        dsimp only [tNil]
        refine hy _ (.tup upd_same ((RepA.cons g1 (.cons g2 (.cons g3 (.cons g4 .nil)))).up z1)) ?_
        refine tupRepr hy (fun R hR => ⟨_, (ne5 1 (by decide) (by decide)).trans s1, _, (ne5 2 (by decide) (by decide)).trans s2, _, (ne5 3 (by decide) (by decide)).trans s3, _, (ne5 4 (by decide) (by decide)).trans s4, hR⟩) (.cons (R1.up z1) (.cons (R2.up z1) (.cons (R3.up z1) (.cons (R4.up z1) .nil)))) (Nat.le_of_ble_eq_true rfl) fun H2 z2 => ⟨rfl, true, by rw [decide_eq_true rfl], iteT ?_⟩
        refine ⟨_, (ne5 0 (by decide) (by decide)).trans s0, 7, n, rfl, rfl, true, congrArg V.bl (decide_eq_true hm), iteT ?_⟩
        exact ⟨n, 12, rfl, rfl, fin _ _ (z1.tr z2) (decide_eq_true hn)⟩
      · obtain ⟨s, es⟩ := Option.isSome_iff_exists.mp hre
        obtain ⟨y, hy⟩ := gRepr_rep (K := K) (ca := caZ Z) es
        obtain ⟨u1, e1, g1⟩ := look _ _ l1
        show wAsM K W _ (Value.ref (caZ Z "NoEnd")) (some dx) σ H'
        rw [ca_NoEnd]
        refine ⟨false, T.em_NoEnd_Final, fun q => Bool.noConfusion q, fun _ => ⟨false, T.em_NoEnd_NotChained, fun q => Bool.noConfusion q, fun _ => ⟨false, T.em_NoEnd_Gap, fun q => Bool.noConfusion q, fun _ => ⟨true, T.em_NoEnd_NoEnd, fun _ a ha => ?_, fun q => Bool.noConfusion q⟩⟩⟩⟩
        refine ⟨_, t6 a, rfl, rfl, dx, fv, u1, rfl, hd, e1, ?_⟩
        dsimp only [tNil]
        refine hy _ g1 ⟨_, (ne a 1 (by decide)).trans s1, ?_⟩
        dsimp only [tNil]
        refine hy _ R1 ⟨rfl, true, by rw [decide_eq_true rfl], iteT ?_⟩
        exact ⟨_, (ne a 0 (by decide)).trans s0, n, 11, rfl, rfl, fin _ _ SameH.rfl (decide_eq_true hn)⟩
    · exact q.elim
  · exact q.elim
noncomputable def b__law_raised : MS := (sTryS (sSeq (sIf (tB' (m2 gLt (mV (mL 0)) (mV (mC (.int 4)))))
    (sRaise "Final" ["name", "key"] (mCons (mV (mL 1)) (mCons (mV (mL 2)) mNil)))
    sNx)
    (sSeq (sIf (tB' (m2 gLt (mV (mL 0)) (mV (mC (.int 8)))))
    (sRaise "NotChained" ["name", "key"] (mCons (mV (mL 1)) (mCons (mV (mL 2)) mNil)))
    sNx)
    (sSeq (sIf (tB' (m2 gLt (mV (mL 0)) (mV (mC (.int 12)))))
    (sRaise "Gap" ["name", "owner", "key", "path"] (mCons (mV (mL 1)) (mCons (mV (mL 2)) (mCons (mV (mL 3)) (mCons (mV (mL 4)) mNil)))))
    sNx)
    (sRaise "NoEnd" ["end"] (mCons (mV (mL 1)) mNil))))) mh__law_raised)
def k__law_raised : List Kd := [.v, .v, .v, .v, .v]
noncomputable def m__law_raised : Mr := runM false k__law_raised 2 b__law_raised
theorem c__law_raised (T : Txt K mg Z) : CalG P w K mg base (3) "_law_raised" (spM K (caZ Z) k__law_raised false false m__law_raised) := by
  have c_NoEnd___init__ := (c_NoEnd___init__ (P := P) (w := w) (base := base) T)
  have c_Final___init__ := (c_Final___init__ (P := P) (w := w) (base := base) T)
  have c_NotChained___init__ := (c_NotChained___init__ (P := P) (w := w) (base := base) T)
  have c_Gap___init__ := (c_Gap___init__ (P := P) (w := w) (base := base) T)
  refine calMG (ks := k__law_raised) (rn := false) (ms := b__law_raised) (ca := caZ Z) T.d__law_raised sc__law_raised rfl rfl fun f cdv A outer s H E hr hgd => ⟨_, (pss_one (ps_try_asM rfl rfl sc__law_raised.nd (fun W pn xe tk _ => (pss_cons (ps_if (pt_cmpR op_lt (pv 0) pe_int (nomark _)) (pss_one (ps_badG rfl tk T.y_Final T.k_Final c_Final___init__ hr (by omega) rfl (pa_cons (pv 1) (pa_cons (pv 2) pa_nil)))) pss_nil)
      (pss_cons (ps_if (pt_cmpR op_lt (pv 0) pe_int (nomark _)) (pss_one (ps_badG rfl tk T.y_NotChained T.k_NotChained c_NotChained___init__ hr (by omega) rfl (pa_cons (pv 1) (pa_cons (pv 2) pa_nil)))) pss_nil)
      (pss_cons (ps_if (pt_cmpR op_lt (pv 0) pe_int (nomark _)) (pss_one (ps_badG rfl tk T.y_Gap T.k_Gap c_Gap___init__ hr (by omega) rfl (pa_cons (pv 1) (pa_cons (pv 2) (pa_cons (pv 3) (pa_cons (pv 4) pa_nil)))))) pss_nil)
      (pss_one (ps_badG rfl tk T.y_NoEnd T.k_NoEnd c_NoEnd___init__ hr (by omega) rfl (pa_cons (pv 1) pa_nil))))))) (.cons (i := 6) rfl rfl ⟨rfl, by decide, .inl T.k_Final⟩ (fun a oe cls d pn hz hf => (pss_one (ps_ret (pe_and (pe_cmpR op_eq (pe_callB (call_reprK (K := K) rfl (by exact hgd) (by exact hr.units)) (by rfl) T.b_repr (by decide +kernel) (pa_cons (pe_tup (pa_cons (pe_fE (f := "name") T.ec_Final T.n_Final_name hz hf (pv 6)) (pa_cons (pe_fE (f := "key") T.ec_Final T.n_Final_key hz hf (pv 6)) pa_nil))) pa_nil)) (pe_callB (call_reprK (K := K) rfl (by exact hgd) (by exact hr.units)) (by rfl) T.b_repr (by decide +kernel) (pa_cons (pe_tup (pa_cons (pv 1) (pa_cons (pv 2) pa_nil))) pa_nil)) (nomark _)) (pe_one (pe_cmpR op_lt (pv 0) pe_int (nomark _))))))) (.cons (i := 6) rfl rfl ⟨rfl, by decide, .inl T.k_NotChained⟩ (fun a oe cls d pn hz hf => (pss_one (ps_ret (pe_and (pe_cmpR op_eq (pe_callB (call_reprK (K := K) rfl (by exact hgd) (by exact hr.units)) (by rfl) T.b_repr (by decide +kernel) (pa_cons (pe_tup (pa_cons (pe_fE (f := "name") T.ec_NotChained T.n_NotChained_name hz hf (pv 6)) (pa_cons (pe_fE (f := "key") T.ec_NotChained T.n_NotChained_key hz hf (pv 6)) pa_nil))) pa_nil)) (pe_callB (call_reprK (K := K) rfl (by exact hgd) (by exact hr.units)) (by rfl) T.b_repr (by decide +kernel) (pa_cons (pe_tup (pa_cons (pv 1) (pa_cons (pv 2) pa_nil))) pa_nil)) (nomark _)) (pe_one (pe_chain op_lt op_lt pe_int (pv 0) pe_int)))))) (.cons (i := 6) rfl rfl ⟨rfl, by decide, .inl T.k_Gap⟩ (fun a oe cls d pn hz hf => (pss_cons (ps_set (i := 5) sc__law_raised.nd rfl (by first | exact Or.inl rfl | exact Or.inr rfl) (pe_tup (pa_cons (pe_fE (f := "name") T.ec_Gap T.n_Gap_name hz hf (pv 6)) (pa_cons (pe_fE (f := "owner") T.ec_Gap T.n_Gap_owner hz hf (pv 6)) (pa_cons (pe_fE (f := "key") T.ec_Gap T.n_Gap_key hz hf (pv 6)) (pa_cons (pe_fE (f := "path") T.ec_Gap T.n_Gap_path hz hf (pv 6)) pa_nil))))))
      (pss_one (ps_ret (pe_and (pe_cmpR op_eq (pe_callB (call_reprK (K := K) rfl (by exact hgd) (by exact hr.units)) (by rfl) T.b_repr (by decide +kernel) (pa_cons (pv 5) pa_nil)) (pe_callB (call_reprK (K := K) rfl (by exact hgd) (by exact hr.units)) (by rfl) T.b_repr (by decide +kernel) (pa_cons (pe_tup (pa_cons (pv 1) (pa_cons (pv 2) (pa_cons (pv 3) (pa_cons (pv 4) pa_nil))))) pa_nil)) (nomark _)) (pe_one (pe_chain op_lt op_lt pe_int (pv 0) pe_int))))))) (.cons (i := 6) rfl rfl ⟨rfl, by decide, .inl T.k_NoEnd⟩ (fun a oe cls d pn hz hf => (pss_one (ps_ret (pe_and (pe_cmpR op_eq (pe_callB (call_reprK (K := K) rfl (by exact hgd) (by exact hr.units)) (by rfl) T.b_repr (by decide +kernel) (pa_cons (pe_fE (f := "end") T.ec_NoEnd T.n_NoEnd_end hz hf (pv 6)) pa_nil)) (pe_callB (call_reprK (K := K) rfl (by exact hgd) (by exact hr.units)) (by rfl) T.b_repr (by decide +kernel) (pa_cons (pv 1) pa_nil)) (nomark _)) (pe_one (pe_cmpR op_gt (pv 0) pe_int (nomark _))))))) .nil)))))), fun H0 C B0 => ?_⟩
  exact (ss_tryM (tb := tb__law_raised K Z) (fun EE H0 C B0 => by unfold tb__law_raised rs0; exact (ss_seq (ss_if (st_test (se_2 g_lt (SE.pl (se_var 0)) (SE.pl se_int))) (ss_raise (by decide) (ca_Final Z) (sa_cons (SE.pl (se_var 1)) (sa_cons (SE.pl (se_var 2)) sa_nil))) ss_nx)
      (ss_seq (ss_if (st_test (se_2 g_lt (SE.pl (se_var 0)) (SE.pl se_int))) (ss_raise (by decide) (ca_NotChained Z) (sa_cons (SE.pl (se_var 1)) (sa_cons (SE.pl (se_var 2)) sa_nil))) ss_nx)
      (ss_seq (ss_if (st_test (se_2 g_lt (SE.pl (se_var 0)) (SE.pl se_int))) (ss_raise (by decide) (ca_Gap Z) (sa_cons (SE.pl (se_var 1)) (sa_cons (SE.pl (se_var 2)) (sa_cons (SE.pl (se_var 3)) (sa_cons (SE.pl (se_var 4)) sa_nil))))) ss_nx)
      (ss_raise (by decide) (ca_NoEnd Z) (sa_cons (SE.pl (se_var 1)) sa_nil)))))) (hs__law_raised T) (fun D σ H => by
      unfold tb__law_raised rs0 cls4 tSeq tIfS tNext
      dsimp only
      rfl))
end

section
variable {P : Program} {w : World} {K : PySem.W.Frag} {mg : Str → Option Value} {base : Heap} {Z : Addrs}
noncomputable def b_law : MS := (sSeq (sFor (mItA gRng1 (mCons (mV (mA gMax (mCons (mV (mC (.int 1))) (mCons (mV (mA gMin (mCons (mV (mC (.int 6))) (mCons (mV (mA gLen (mCons (mV (mL 0)) mNil))) mNil)))) mNil)))) mNil)) (gNm 1)
    (sSeq (sSetN 2 (mCall k__law_bag m__law_bag (mCons (mV (mL 0)) (mCons (mV (mL 1)) mNil))))
    (sSeq (sAsg (mLc (mItA gRng1 (mCons (mV (mC (.int 4))) mNil)) (gNm 19) mYes (mCall k__law_value m__law_value (mCons (mS 2) mNil)) [19]) (gLp 4 (gCo (gNm 3) (gCo (gNm 4) (gCo (gNm 5) (gCo (gNm 6) gNo))))))
    (sSeq (sPar3 7 8 9 (mCons (mV (mMkG "NotABase" ["owner", "key", "path"] (mCons (mV (mL 3)) (mCons (mV (mL 4)) (mCons (mV (mL 5)) mNil))))) (mCons (mV (mMkG "Gap" ["name", "owner", "key", "path"] (mCons (mV (mL 3)) (mCons (mV (mL 4)) (mCons (mV (mL 5)) (mCons (mV (mL 6)) mNil)))))) (mCons (mV (mMkG "NotLawful" ["owner", "key", "path"] (mCons (mV (mL 4)) (mCons (mV (mL 5)) (mCons (mV (mL 3)) mNil))))) mNil))))
    (sSeq (sSet 10 (mLst (mCons (mV (mMkG "BadText" ["at"] (mCons (mV (mL 3)) mNil))) (mCons (mV (mMkG "TooMany" ["what"] (mCons (mV (mL 4)) mNil))) (mCons (mV (mMkG "Twice" ["name"] (mCons (mV (mL 5)) mNil))) (mCons (mV (mMkG "NoClass" ["name"] (mCons (mV (mL 6)) mNil))) (mCons (mV (mMkG "NoOrder" ["name"] (mCons (mV (mL 3)) mNil))) (mCons (mV (mL 7)) (mCons (mV (mMkG "Final" ["name", "key"] (mCons (mV (mL 5)) (mCons (mV (mL 6)) mNil)))) (mCons (mV (mMkG "NotChained" ["name", "key"] (mCons (mV (mL 4)) (mCons (mV (mL 3)) mNil)))) (mCons (mV (mL 9)) mNil)))))))))))
    (sSeq (sSet 10 (m2 gCatL (mV (mL 10)) (mV (mLst (mCons (mV (mMkG "BadKey" ["key"] (mCons (mV (mL 4)) mNil))) (mCons (mV (mMkG "BadName" ["name"] (mCons (mV (mL 5)) mNil))) (mCons (mV (mMkG "BadOrder" ["value"] (mCons (mV (mL 6)) mNil))) (mCons (mV (mMkG "BadDeed" ["at"] (mCons (mV (mL 3)) mNil))) (mCons (mV (mMkG "BadLimit" ["value"] (mCons (mV (mL 4)) mNil))) (mCons (mV (mMkG "Far" ["steps"] (mCons (mV (mL 5)) mNil))) (mCons (mV (mL 8)) (mCons (mV (mMkG "Long" ["most"] (mCons (mV (mL 6)) mNil))) mNil))))))))))))
    (sSeq (sSet 10 (m2 gCatL (mV (mL 10)) (mV (mLst (mCons (mV (mC (.exn "NoObject" []))) (mCons (mV (mMkG "NoEnd" ["end"] (mCons (mV (mL 3)) mNil))) mNil))))))
    (sSeq (sFor (mItA gEnumL (mCons (mV (mL 10)) mNil)) (gTp 2 (gCo (gNm 11) (gCo (gNm 12) gNo)))
    (sSeq (sPar2 13 14 (mCons (mV (m2 gLt (mV (mL 11)) (mV (mC (.int 15))))) (mCons (mV (m2 (gEqS false) (mV (mL 11)) (mV (mC (.int 18))))) mNil)))
    (sSeq (sSet 15 (mChain gLe gLt (mV (mC (.int 15))) (mV (mL 11)) (mV (mC (.int 18)))))
    (sSeq (sIf (tOr' (tB' (m2 (gEqD true) (mV (mCall k__law_kinds m__law_kinds (mCons (mV (mL 12)) mNil))) (mV (mLst (mCons (mV (mL 11)) mNil))))) (tB' (m2 (gEqS true) (mV (m1 (gIsG ks_EarlyError) (mV (mL 12)))) (mV (mL 13)))))
    (sRet (mC (.bl false)))
    sNx)
    (sSeq (sIf (tB' (m2 (gEqS true) (mV (m1 (gIsG ks_ValueError) (mV (mL 12)))) (mV (mL 13))))
    (sRet (mC (.bl false)))
    sNx)
    (sSeq (sIf (tB' (m2 (gEqS true) (mV (m1 (gIsG ks_RuntimeError) (mV (mL 12)))) (mV (mL 15))))
    (sRet (mC (.bl false)))
    sNx)
    (sIf (tB' (m2 (gEqS true) (mV (m1 (gIsG ks_LookupError) (mV (mL 12)))) (mV (mL 14))))
    (sRet (mC (.bl false)))
    sNx)))))))
    (sSeq (sSet 16 (mLst (mCons (mV (m1 (gFdG tb_at "at") (mV (m2 gIxL (mV (mL 10)) (mV (mC (.int 0))))))) (mCons (mV (m1 (gFdG tb_what "what") (mV (m2 gIxL (mV (mL 10)) (mV (mC (.int 1))))))) (mCons (mV (m1 (gFdG tb_name "name") (mV (m2 gIxL (mV (mL 10)) (mV (mC (.int 2))))))) (mCons (mV (m1 (gFdG tb_name "name") (mV (m2 gIxL (mV (mL 10)) (mV (mC (.int 3))))))) (mCons (mV (m1 (gFdG tb_name "name") (mV (m2 gIxL (mV (mL 10)) (mV (mC (.int 4))))))) (mCons (mV (m1 (gFdG tb_key "key") (mV (m2 gIxL (mV (mL 10)) (mV (mC (.int 9))))))) (mCons (mV (m1 (gFdG tb_name "name") (mV (m2 gIxL (mV (mL 10)) (mV (mC (.int 10))))))) mNil)))))))))
    (sSeq (sSet 16 (m2 gCatL (mV (mL 16)) (mV (mLst (mCons (mV (m1 (gFdG tb_value "value") (mV (m2 gIxL (mV (mL 10)) (mV (mC (.int 11))))))) (mCons (mV (m1 (gFdG tb_at "at") (mV (m2 gIxL (mV (mL 10)) (mV (mC (.int 12))))))) (mCons (mV (m1 (gFdG tb_value "value") (mV (m2 gIxL (mV (mL 10)) (mV (mC (.int 13))))))) (mCons (mV (m1 (gFdG tb_steps "steps") (mV (m2 gIxL (mV (mL 10)) (mV (mC (.int 14))))))) (mCons (mV (m1 (gFdG tb_most "most") (mV (m2 gIxL (mV (mL 10)) (mV (mC (.int 16))))))) (mCons (mV (m1 (gFdG tb_end "end") (mV (m2 gIxL (mV (mL 10)) (mV (mC (.int 18))))))) mNil))))))))))
    (sSeq (sIf (tB' (m2 (gEqS true) (mV (mA gRepr (mCons (mV (mL 16)) mNil))) (mV (mA gRepr (mCons (mV (mLst (mCons (mV (mL 3)) (mCons (mV (mL 4)) (mCons (mV (mL 5)) (mCons (mV (mL 6)) (mCons (mV (mL 3)) (mCons (mV (mL 4)) (mCons (mV (mL 5)) (mCons (mV (mL 6)) (mCons (mV (mL 3)) (mCons (mV (mL 4)) (mCons (mV (mL 5)) (mCons (mV (mL 6)) (mCons (mV (mL 3)) mNil))))))))))))))) mNil)))))
    (sRet (mC (.bl false)))
    sNx)
    (sSeq (sSet 17 (mLst (mCons (mV (m1 (gFdG tb_name "name") (mV (m2 gIxL (mV (mL 10)) (mV (mC (.int 6))))))) (mCons (mV (m1 (gFdG tb_key "key") (mV (m2 gIxL (mV (mL 10)) (mV (mC (.int 6))))))) (mCons (mV (m1 (gFdG tb_name "name") (mV (m2 gIxL (mV (mL 10)) (mV (mC (.int 7))))))) (mCons (mV (m1 (gFdG tb_key "key") (mV (m2 gIxL (mV (mL 10)) (mV (mC (.int 7))))))) (mCons (mV (m1 (gFdG tb_owner "owner") (mV (mL 7)))) (mCons (mV (m1 (gFdG tb_key "key") (mV (mL 7)))) (mCons (mV (m1 (gFdG tb_path "path") (mV (mL 7)))) mNil)))))))))
    (sSeq (sSet 18 (mLst (mCons (mV (m1 (gFdG tb_owner "owner") (mV (mL 9)))) (mCons (mV (m1 (gFdG tb_key "key") (mV (mL 9)))) (mCons (mV (m1 (gFdG tb_path "path") (mV (mL 9)))) (mCons (mV (m1 (gFdG tb_name "name") (mV (mL 8)))) (mCons (mV (m1 (gFdG tb_owner "owner") (mV (mL 8)))) (mCons (mV (m1 (gFdG tb_key "key") (mV (mL 8)))) (mCons (mV (m1 (gFdG tb_path "path") (mV (mL 8)))) mNil)))))))))
    (sSeq (sIf (tB' (m2 (gEqS true) (mV (mA gRepr (mCons (mV (m2 gCatL (mV (mL 17)) (mV (mL 18)))) mNil))) (mV (mA gRepr (mCons (mV (mLst (mCons (mV (mL 5)) (mCons (mV (mL 6)) (mCons (mV (mL 4)) (mCons (mV (mL 3)) (mCons (mV (mL 3)) (mCons (mV (mL 4)) (mCons (mV (mL 5)) (mCons (mV (mL 4)) (mCons (mV (mL 5)) (mCons (mV (mL 3)) (mCons (mV (mL 3)) (mCons (mV (mL 4)) (mCons (mV (mL 5)) (mCons (mV (mL 6)) mNil)))))))))))))))) mNil)))))
    (sRet (mC (.bl false)))
    sNx)
    (sIf (tNot' (tB' (mCall k__law_raised m__law_raised (mCons (mV (mCall k__law_draw m__law_draw (mCons (mS 2) (mCons (mV (mC (.int 16))) mNil)))) (mCons (mV (mL 3)) (mCons (mV (mL 4)) (mCons (mV (mL 5)) (mCons (mV (mL 6)) mNil))))))))
    (sRet (mC (.bl false)))
    sNx)))))))))))))))
    (sRet (mC (.bl true))))
def k_law : List Kd := [.v]
noncomputable def m_law : Mr := runM false k_law 19 b_law
theorem c_law {f4 : Addr} {fd4 : FuncData} (F4 : Fun K "law" "law" s_law f4 fd4) (T : Txt K mg Z) : FnG P w K mg base CX0 (90) f4 fd4 ["script"] (spM K (caZ Z) k_law false false m_law) := by
  have c__law_bag := (c__law_bag (P := P) (w := w) (base := base) T)
  have c__law_value := (c__law_value (P := P) (w := w) (base := base) T)
  have c__law_raised := (c__law_raised (P := P) (w := w) (base := base) T)
  have c__law_draw := (c__law_draw (P := P) (w := w) (base := base) T)
  have c__law_kinds := (c__law_kinds (P := P) (w := w) (base := base) T)
  have c_NotABase___init__ := (c_NotABase___init__ (P := P) (w := w) (base := base) T)
  have c_Gap___init__ := (c_Gap___init__ (P := P) (w := w) (base := base) T)
  have c_NotLawful___init__ := (c_NotLawful___init__ (P := P) (w := w) (base := base) T)
  have c_BadText___init__ := (c_BadText___init__ (P := P) (w := w) (base := base) T)
  have c_TooMany___init__ := (c_TooMany___init__ (P := P) (w := w) (base := base) T)
  have c_Twice___init__ := (c_Twice___init__ (P := P) (w := w) (base := base) T)
  have c_NoClass___init__ := (c_NoClass___init__ (P := P) (w := w) (base := base) T)
  have c_NoOrder___init__ := (c_NoOrder___init__ (P := P) (w := w) (base := base) T)
  have c_Final___init__ := (c_Final___init__ (P := P) (w := w) (base := base) T)
  have c_NotChained___init__ := (c_NotChained___init__ (P := P) (w := w) (base := base) T)
  have c_BadKey___init__ := (c_BadKey___init__ (P := P) (w := w) (base := base) T)
  have c_BadName___init__ := (c_BadName___init__ (P := P) (w := w) (base := base) T)
  have c_BadOrder___init__ := (c_BadOrder___init__ (P := P) (w := w) (base := base) T)
  have c_BadDeed___init__ := (c_BadDeed___init__ (P := P) (w := w) (base := base) T)
  have c_BadLimit___init__ := (c_BadLimit___init__ (P := P) (w := w) (base := base) T)
  have c_Far___init__ := (c_Far___init__ (P := P) (w := w) (base := base) T)
  have c_Long___init__ := (c_Long___init__ (P := P) (w := w) (base := base) T)
  have c_NoEnd___init__ := (c_NoEnd___init__ (P := P) (w := w) (base := base) T)
  refine fnMG (ks := k_law) (rn := false) (ms := b_law) (ca := caZ Z) F4 sc_law rfl rfl fun cdv A outer s H E hr hgd => ⟨_, (pss_cons (ps_for PassesOwn.never rfl (pi_range1 rfl T.b_range (pa_cons (pe_callB (call_max2 rfl) (by rfl) T.b_max (by decide +kernel) (pa_cons pe_int (pa_cons (pe_callB (call_min2 rfl) (by rfl) T.b_min (by decide +kernel) (pa_cons pe_int (pa_cons (pe_callB call_len_seq (by rfl) T.b_len (by decide +kernel) (pa_cons (pv 0) pa_nil)) pa_nil))) pa_nil))) pa_nil)) (pg_name (i := 1) sc_law.nd rfl (by first | exact Or.inl rfl | exact Or.inr rfl)) (pss_cons (ps_set (i := 2) sc_law.nd rfl (by first | exact Or.inl rfl | exact Or.inr rfl) (pe_c c__law_bag hr (by omega) rfl (pa_cons (pv 0) (pa_cons (pv 1) pa_nil))))
      (pss_cons (ps_asg (pe_lc (own := [("turn", 19)]) (g := gName 19) (tt := tYes) rfl sc_law.nd (pi_range1 rfl T.b_range (pa_cons pe_int pa_nil)) (blkOk_by (N := ["script", "at", "bag", "a", "b", "c", "d", "base", "gap", "lawful", "made", "k", "e", "is_early", "is_look", "is_run", "told", "pairs", "more", "turn"]) (sc := defScope s_law) (by decide +kernel)) (fun _ _ _ _ _ => (pg_name (i := 19) sc_law.nd rfl (by first | exact Or.inl rfl | exact Or.inr rfl))) (fun _ _ _ _ _ => pts_nil) (fun _ _ _ _ _ => (pe_c c__law_value hr (by omega) rfl (pa_cons (pv 2) pa_nil)))) (L2.pg_lst (by rfl) (pgs_cons (pg_name (i := 3) sc_law.nd rfl (by first | exact Or.inl rfl | exact Or.inr rfl)) (pgs_cons (pg_name (i := 4) sc_law.nd rfl (by first | exact Or.inl rfl | exact Or.inr rfl)) (pgs_cons (pg_name (i := 5) sc_law.nd rfl (by first | exact Or.inl rfl | exact Or.inr rfl)) (pgs_cons (pg_name (i := 6) sc_law.nd rfl (by first | exact Or.inl rfl | exact Or.inr rfl)) pgs_nil))))))
      (pss_cons (ps_par3 (i := 7) (j := 8) (l := 9) (by rfl) sc_law.nd rfl rfl rfl (by decide) (by decide) (by decide) rfl rfl rfl (pa_cons (pe_mkG T.y_NotABase c_NotABase___init__ hr (by omega) rfl T.k_NotABase (pa_cons (pv 3) (pa_cons (pv 4) (pa_cons (pv 5) pa_nil)))) (pa_cons (pe_mkG T.y_Gap c_Gap___init__ hr (by omega) rfl T.k_Gap (pa_cons (pv 3) (pa_cons (pv 4) (pa_cons (pv 5) (pa_cons (pv 6) pa_nil))))) (pa_cons (pe_mkG T.y_NotLawful c_NotLawful___init__ hr (by omega) rfl T.k_NotLawful (pa_cons (pv 4) (pa_cons (pv 5) (pa_cons (pv 3) pa_nil)))) pa_nil))) (by rfl))
      (pss_cons (ps_set (i := 10) sc_law.nd rfl (by first | exact Or.inl rfl | exact Or.inr rfl) (pe_lst (pa_cons (pe_mkG T.y_BadText c_BadText___init__ hr (by omega) rfl T.k_BadText (pa_cons (pv 3) pa_nil)) (pa_cons (pe_mkG T.y_TooMany c_TooMany___init__ hr (by omega) rfl T.k_TooMany (pa_cons (pv 4) pa_nil)) (pa_cons (pe_mkG T.y_Twice c_Twice___init__ hr (by omega) rfl T.k_Twice (pa_cons (pv 5) pa_nil)) (pa_cons (pe_mkG T.y_NoClass c_NoClass___init__ hr (by omega) rfl T.k_NoClass (pa_cons (pv 6) pa_nil)) (pa_cons (pe_mkG T.y_NoOrder c_NoOrder___init__ hr (by omega) rfl T.k_NoOrder (pa_cons (pv 3) pa_nil)) (pa_cons (pv 7) (pa_cons (pe_mkG T.y_Final c_Final___init__ hr (by omega) rfl T.k_Final (pa_cons (pv 5) (pa_cons (pv 6) pa_nil))) (pa_cons (pe_mkG T.y_NotChained c_NotChained___init__ hr (by omega) rfl T.k_NotChained (pa_cons (pv 4) (pa_cons (pv 3) pa_nil))) (pa_cons (pv 9) pa_nil)))))))))))
      (pss_cons (ps_set (i := 10) sc_law.nd rfl (by first | exact Or.inl rfl | exact Or.inr rfl) (pe_op op_cat (pv 10) (pe_lst (pa_cons (pe_mkG T.y_BadKey c_BadKey___init__ hr (by omega) rfl T.k_BadKey (pa_cons (pv 4) pa_nil)) (pa_cons (pe_mkG T.y_BadName c_BadName___init__ hr (by omega) rfl T.k_BadName (pa_cons (pv 5) pa_nil)) (pa_cons (pe_mkG T.y_BadOrder c_BadOrder___init__ hr (by omega) rfl T.k_BadOrder (pa_cons (pv 6) pa_nil)) (pa_cons (pe_mkG T.y_BadDeed c_BadDeed___init__ hr (by omega) rfl T.k_BadDeed (pa_cons (pv 3) pa_nil)) (pa_cons (pe_mkG T.y_BadLimit c_BadLimit___init__ hr (by omega) rfl T.k_BadLimit (pa_cons (pv 4) pa_nil)) (pa_cons (pe_mkG T.y_Far c_Far___init__ hr (by omega) rfl T.k_Far (pa_cons (pv 5) pa_nil)) (pa_cons (pv 8) (pa_cons (pe_mkG T.y_Long c_Long___init__ hr (by omega) rfl T.k_Long (pa_cons (pv 6) pa_nil)) pa_nil)))))))))))
      (pss_cons (ps_set (i := 10) sc_law.nd rfl (by first | exact Or.inl rfl | exact Or.inr rfl) (pe_op op_cat (pv 10) (pe_lst (pa_cons (pe_mk0 PySem.F.excBase_RuntimeError T.q_NoObject T.k_NoObject T.p_NoObject rfl) (pa_cons (pe_mkG T.y_NoEnd c_NoEnd___init__ hr (by omega) rfl T.k_NoEnd (pa_cons (pv 3) pa_nil)) pa_nil)))))
      (pss_cons (ps_for PassesOwn.never rfl (pi_enum rfl T.b_enumerate (pa_cons (pv 10) pa_nil)) (pg_tup (by rfl) (pgs_cons (pg_name (i := 11) sc_law.nd rfl (by first | exact Or.inl rfl | exact Or.inr rfl)) (pgs_cons (pg_name (i := 12) sc_law.nd rfl (by first | exact Or.inl rfl | exact Or.inr rfl)) pgs_nil))) (pss_cons (ps_par (i := 13) (j := 14) (by rfl) sc_law.nd rfl rfl (by decide) rfl rfl (pa_cons (pe_cmpR op_lt (pv 11) pe_int (nomark _)) (pa_cons (pe_cmpR op_eq (pv 11) pe_int (nomark _)) pa_nil)) (by rfl))
      (pss_cons (ps_set (i := 15) sc_law.nd rfl (by first | exact Or.inl rfl | exact Or.inr rfl) (pe_chain op_le op_lt pe_int (pv 11) pe_int))
      (pss_cons (ps_if (PW.pt (pw_or (pt_cmpR (op_neD hr.units) (pe_c c__law_kinds hr (by omega) rfl (pa_cons (pv 12) pa_nil)) (pe_lst (pa_cons (pv 11) pa_nil)) (nomark _)) (pw_or1 (pt_cmpR op_ne (pe_isG (w := .ref Z.C_EarlyError) (cv := .ref Z.C_EarlyError) (fun u r => r) (by rfl) T.b_isinstance (pv 12) (pe_gc (v := .ref Z.C_EarlyError) rfl ⟨_, T.k_EarlyError, rfl⟩)) (pv 13) (nomark _))))) (pss_one (ps_ret pe_bl)) pss_nil)
      (pss_cons (ps_if (pt_cmpR op_ne (pe_isG (w := .ty "ValueError") (cv := .type "ValueError") (fun u r => r) (by rfl) T.b_isinstance (pv 12) (pe_bltn (v := .ty "ValueError") (by rfl) T.b_ValueError (by decide +kernel) rfl)) (pv 13) (nomark _)) (pss_one (ps_ret pe_bl)) pss_nil)
      (pss_cons (ps_if (pt_cmpR op_ne (pe_isG (w := .ty "RuntimeError") (cv := .type "RuntimeError") (fun u r => r) (by rfl) T.b_isinstance (pv 12) (pe_bltn (v := .ty "RuntimeError") (by rfl) T.b_RuntimeError (by decide +kernel) rfl)) (pv 15) (nomark _)) (pss_one (ps_ret pe_bl)) pss_nil)
      (pss_one (ps_if (pt_cmpR op_ne (pe_isG (w := .ty "LookupError") (cv := .type "LookupError") (fun u r => r) (by rfl) T.b_isinstance (pv 12) (pe_bltn (v := .ty "LookupError") (by rfl) T.b_LookupError (by decide +kernel) rfl)) (pv 14) (nomark _)) (pss_one (ps_ret pe_bl)) pss_nil))))))))
      (pss_cons (ps_set (i := 16) sc_law.nd rfl (by first | exact Or.inl rfl | exact Or.inr rfl) (pe_lst (pa_cons (pe_fdG (pe_ix ix_list (pv 10) pe_int (fun _ _ => rfl))) (pa_cons (pe_fdG (pe_ix ix_list (pv 10) pe_int (fun _ _ => rfl))) (pa_cons (pe_fdG (pe_ix ix_list (pv 10) pe_int (fun _ _ => rfl))) (pa_cons (pe_fdG (pe_ix ix_list (pv 10) pe_int (fun _ _ => rfl))) (pa_cons (pe_fdG (pe_ix ix_list (pv 10) pe_int (fun _ _ => rfl))) (pa_cons (pe_fdG (pe_ix ix_list (pv 10) pe_int (fun _ _ => rfl))) (pa_cons (pe_fdG (pe_ix ix_list (pv 10) pe_int (fun _ _ => rfl))) pa_nil)))))))))
      (pss_cons (ps_set (i := 16) sc_law.nd rfl (by first | exact Or.inl rfl | exact Or.inr rfl) (pe_op op_cat (pv 16) (pe_lst (pa_cons (pe_fdG (pe_ix ix_list (pv 10) pe_int (fun _ _ => rfl))) (pa_cons (pe_fdG (pe_ix ix_list (pv 10) pe_int (fun _ _ => rfl))) (pa_cons (pe_fdG (pe_ix ix_list (pv 10) pe_int (fun _ _ => rfl))) (pa_cons (pe_fdG (pe_ix ix_list (pv 10) pe_int (fun _ _ => rfl))) (pa_cons (pe_fdG (pe_ix ix_list (pv 10) pe_int (fun _ _ => rfl))) (pa_cons (pe_fdG (pe_ix ix_list (pv 10) pe_int (fun _ _ => rfl))) pa_nil)))))))))
      (pss_cons (ps_if (pt_cmpR op_ne (pe_callB (call_reprK (K := K) rfl (by exact hgd) (by exact hr.units)) (by rfl) T.b_repr (by decide +kernel) (pa_cons (pv 16) pa_nil)) (pe_callB (call_reprK (K := K) rfl (by exact hgd) (by exact hr.units)) (by rfl) T.b_repr (by decide +kernel) (pa_cons (pe_lst (pa_cons (pv 3) (pa_cons (pv 4) (pa_cons (pv 5) (pa_cons (pv 6) (pa_cons (pv 3) (pa_cons (pv 4) (pa_cons (pv 5) (pa_cons (pv 6) (pa_cons (pv 3) (pa_cons (pv 4) (pa_cons (pv 5) (pa_cons (pv 6) (pa_cons (pv 3) pa_nil)))))))))))))) pa_nil)) (nomark _)) (pss_one (ps_ret pe_bl)) pss_nil)
      (pss_cons (ps_set (i := 17) sc_law.nd rfl (by first | exact Or.inl rfl | exact Or.inr rfl) (pe_lst (pa_cons (pe_fdG (pe_ix ix_list (pv 10) pe_int (fun _ _ => rfl))) (pa_cons (pe_fdG (pe_ix ix_list (pv 10) pe_int (fun _ _ => rfl))) (pa_cons (pe_fdG (pe_ix ix_list (pv 10) pe_int (fun _ _ => rfl))) (pa_cons (pe_fdG (pe_ix ix_list (pv 10) pe_int (fun _ _ => rfl))) (pa_cons (pe_fdG (pv 7)) (pa_cons (pe_fdG (pv 7)) (pa_cons (pe_fdG (pv 7)) pa_nil)))))))))
      (pss_cons (ps_set (i := 18) sc_law.nd rfl (by first | exact Or.inl rfl | exact Or.inr rfl) (pe_lst (pa_cons (pe_fdG (pv 9)) (pa_cons (pe_fdG (pv 9)) (pa_cons (pe_fdG (pv 9)) (pa_cons (pe_fdG (pv 8)) (pa_cons (pe_fdG (pv 8)) (pa_cons (pe_fdG (pv 8)) (pa_cons (pe_fdG (pv 8)) pa_nil)))))))))
      (pss_cons (ps_if (pt_cmpR op_ne (pe_callB (call_reprK (K := K) rfl (by exact hgd) (by exact hr.units)) (by rfl) T.b_repr (by decide +kernel) (pa_cons (pe_op op_cat (pv 17) (pv 18)) pa_nil)) (pe_callB (call_reprK (K := K) rfl (by exact hgd) (by exact hr.units)) (by rfl) T.b_repr (by decide +kernel) (pa_cons (pe_lst (pa_cons (pv 5) (pa_cons (pv 6) (pa_cons (pv 4) (pa_cons (pv 3) (pa_cons (pv 3) (pa_cons (pv 4) (pa_cons (pv 5) (pa_cons (pv 4) (pa_cons (pv 5) (pa_cons (pv 3) (pa_cons (pv 3) (pa_cons (pv 4) (pa_cons (pv 5) (pa_cons (pv 6) pa_nil))))))))))))))) pa_nil)) (nomark _)) (pss_one (ps_ret pe_bl)) pss_nil)
      (pss_one (ps_if (pt_not (pt_val (pe_cG c__law_raised hr (by omega) (by exact hgd) rfl (pa_cons (pe_c c__law_draw hr (by omega) rfl (pa_cons (pv 2) (pa_cons pe_int pa_nil))) (pa_cons (pv 3) (pa_cons (pv 4) (pa_cons (pv 5) (pa_cons (pv 6) pa_nil)))))))) (pss_one (ps_ret pe_bl)) pss_nil))))))))))))))))
      (pss_one (ps_ret pe_bl))), fun H0 C B0 => ?_⟩
  exact (ss_seq (ss_for (si_rng1 (sa_cons (SE.pl (se_A a_max (sa_cons (SE.pl se_int) (sa_cons (SE.pl (se_A a_min (sa_cons (SE.pl se_int) (sa_cons (SE.pl (se_A a_len (sa_cons (SE.pl (se_var 0)) sa_nil))) sa_nil)))) sa_nil)))) sa_nil)) sg_name (ss_seq (ss_setN (sn_call (sa_cons (SE.pl (se_var 0)) (sa_cons (SE.pl (se_var 1)) sa_nil))))
      (ss_seq (ss_asg (SN.se (sn_lc (si_rng1 (sa_cons (SE.pl se_int) sa_nil)) sg_name (by decide) st_yes (se_call (sa_cons (sp_slot 2) sa_nil)))) (sg_lst (sgs_cons sg_name (sgs_cons sg_name (sgs_cons sg_name (sgs_cons sg_name sgs_nil))))))
      (ss_seq (ss_par3 (sa_cons (SE.pl (se_mkG (by decide) (ca_NotABase Z) (sa_cons (SE.pl (se_var 3)) (sa_cons (SE.pl (se_var 4)) (sa_cons (SE.pl (se_var 5)) sa_nil))))) (sa_cons (SE.pl (se_mkG (by decide) (ca_Gap Z) (sa_cons (SE.pl (se_var 3)) (sa_cons (SE.pl (se_var 4)) (sa_cons (SE.pl (se_var 5)) (sa_cons (SE.pl (se_var 6)) sa_nil)))))) (sa_cons (SE.pl (se_mkG (by decide) (ca_NotLawful Z) (sa_cons (SE.pl (se_var 4)) (sa_cons (SE.pl (se_var 5)) (sa_cons (SE.pl (se_var 3)) sa_nil))))) sa_nil))))
      (ss_seq (ss_set (SN.se (sn_lst (sa_cons (SE.pl (se_mkG (by decide) (ca_BadText Z) (sa_cons (SE.pl (se_var 3)) sa_nil))) (sa_cons (SE.pl (se_mkG (by decide) (ca_TooMany Z) (sa_cons (SE.pl (se_var 4)) sa_nil))) (sa_cons (SE.pl (se_mkG (by decide) (ca_Twice Z) (sa_cons (SE.pl (se_var 5)) sa_nil))) (sa_cons (SE.pl (se_mkG (by decide) (ca_NoClass Z) (sa_cons (SE.pl (se_var 6)) sa_nil))) (sa_cons (SE.pl (se_mkG (by decide) (ca_NoOrder Z) (sa_cons (SE.pl (se_var 3)) sa_nil))) (sa_cons (SE.pl (se_var 7)) (sa_cons (SE.pl (se_mkG (by decide) (ca_Final Z) (sa_cons (SE.pl (se_var 5)) (sa_cons (SE.pl (se_var 6)) sa_nil)))) (sa_cons (SE.pl (se_mkG (by decide) (ca_NotChained Z) (sa_cons (SE.pl (se_var 4)) (sa_cons (SE.pl (se_var 3)) sa_nil)))) (sa_cons (SE.pl (se_var 9)) sa_nil))))))))))))
      (ss_seq (ss_set (SN.se (sn_2 n_catL (SE.pl (se_var 10)) (SE.pl (SN.se (sn_lst (sa_cons (SE.pl (se_mkG (by decide) (ca_BadKey Z) (sa_cons (SE.pl (se_var 4)) sa_nil))) (sa_cons (SE.pl (se_mkG (by decide) (ca_BadName Z) (sa_cons (SE.pl (se_var 5)) sa_nil))) (sa_cons (SE.pl (se_mkG (by decide) (ca_BadOrder Z) (sa_cons (SE.pl (se_var 6)) sa_nil))) (sa_cons (SE.pl (se_mkG (by decide) (ca_BadDeed Z) (sa_cons (SE.pl (se_var 3)) sa_nil))) (sa_cons (SE.pl (se_mkG (by decide) (ca_BadLimit Z) (sa_cons (SE.pl (se_var 4)) sa_nil))) (sa_cons (SE.pl (se_mkG (by decide) (ca_Far Z) (sa_cons (SE.pl (se_var 5)) sa_nil))) (sa_cons (SE.pl (se_var 8)) (sa_cons (SE.pl (se_mkG (by decide) (ca_Long Z) (sa_cons (SE.pl (se_var 6)) sa_nil))) sa_nil))))))))))))))
      (ss_seq (ss_set (SN.se (sn_2 n_catL (SE.pl (se_var 10)) (SE.pl (SN.se (sn_lst (sa_cons (SE.pl (se_mk0 (ca_NoObject Z))) (sa_cons (SE.pl (se_mkG (by decide) (ca_NoEnd Z) (sa_cons (SE.pl (se_var 3)) sa_nil))) sa_nil))))))))
      (ss_seq (ss_for (si_enum (sa_cons (SE.pl (se_var 10)) sa_nil)) (sg_tup (sgs_cons sg_name (sgs_cons sg_name sgs_nil))) (ss_seq (ss_par2 (sa_cons (SE.pl (se_2 g_lt (SE.pl (se_var 11)) (SE.pl se_int))) (sa_cons (SE.pl (se_2 g_eqS (SE.pl (se_var 11)) (SE.pl se_int))) sa_nil)))
      (ss_seq (ss_set (se_chain g_le g_lt (SE.pl se_int) (SE.pl (se_var 11)) (SE.pl se_int)))
      (ss_seq (ss_if (st_or (st_test (se_2 g_neD (SE.pl (SN.se (sn_call (sa_cons (SE.pl (se_var 12)) sa_nil)))) (SE.pl (SN.se (sn_lst (sa_cons (SE.pl (se_var 11)) sa_nil)))))) (st_test (se_2 g_neS (SE.pl (se_1 (g_isG (ks_EarlyError_ok T)) (SE.pl (se_var 12)))) (SE.pl (se_var 13))))) (ss_ret se_bl) ss_nx)
      (ss_seq (ss_if (st_test (se_2 g_neS (SE.pl (se_1 (g_isG (ks_ValueError_ok T)) (SE.pl (se_var 12)))) (SE.pl (se_var 13)))) (ss_ret se_bl) ss_nx)
      (ss_seq (ss_if (st_test (se_2 g_neS (SE.pl (se_1 (g_isG (ks_RuntimeError_ok T)) (SE.pl (se_var 12)))) (SE.pl (se_var 15)))) (ss_ret se_bl) ss_nx)
      (ss_if (st_test (se_2 g_neS (SE.pl (se_1 (g_isG (ks_LookupError_ok T)) (SE.pl (se_var 12)))) (SE.pl (se_var 14)))) (ss_ret se_bl) ss_nx)))))))
      (ss_seq (ss_set (SN.se (sn_lst (sa_cons (SE.pl (se_1 (g_fdG (tb_at_ok T)) (SE.pl (se_2 g_ixL (SE.pl (se_var 10)) (SE.pl se_int))))) (sa_cons (SE.pl (se_1 (g_fdG (tb_what_ok T)) (SE.pl (se_2 g_ixL (SE.pl (se_var 10)) (SE.pl se_int))))) (sa_cons (SE.pl (se_1 (g_fdG (tb_name_ok T)) (SE.pl (se_2 g_ixL (SE.pl (se_var 10)) (SE.pl se_int))))) (sa_cons (SE.pl (se_1 (g_fdG (tb_name_ok T)) (SE.pl (se_2 g_ixL (SE.pl (se_var 10)) (SE.pl se_int))))) (sa_cons (SE.pl (se_1 (g_fdG (tb_name_ok T)) (SE.pl (se_2 g_ixL (SE.pl (se_var 10)) (SE.pl se_int))))) (sa_cons (SE.pl (se_1 (g_fdG (tb_key_ok T)) (SE.pl (se_2 g_ixL (SE.pl (se_var 10)) (SE.pl se_int))))) (sa_cons (SE.pl (se_1 (g_fdG (tb_name_ok T)) (SE.pl (se_2 g_ixL (SE.pl (se_var 10)) (SE.pl se_int))))) sa_nil))))))))))
      (ss_seq (ss_set (SN.se (sn_2 n_catL (SE.pl (se_var 16)) (SE.pl (SN.se (sn_lst (sa_cons (SE.pl (se_1 (g_fdG (tb_value_ok T)) (SE.pl (se_2 g_ixL (SE.pl (se_var 10)) (SE.pl se_int))))) (sa_cons (SE.pl (se_1 (g_fdG (tb_at_ok T)) (SE.pl (se_2 g_ixL (SE.pl (se_var 10)) (SE.pl se_int))))) (sa_cons (SE.pl (se_1 (g_fdG (tb_value_ok T)) (SE.pl (se_2 g_ixL (SE.pl (se_var 10)) (SE.pl se_int))))) (sa_cons (SE.pl (se_1 (g_fdG (tb_steps_ok T)) (SE.pl (se_2 g_ixL (SE.pl (se_var 10)) (SE.pl se_int))))) (sa_cons (SE.pl (se_1 (g_fdG (tb_most_ok T)) (SE.pl (se_2 g_ixL (SE.pl (se_var 10)) (SE.pl se_int))))) (sa_cons (SE.pl (se_1 (g_fdG (tb_end_ok T)) (SE.pl (se_2 g_ixL (SE.pl (se_var 10)) (SE.pl se_int))))) sa_nil))))))))))))
      (ss_seq (ss_if (st_test (se_2 g_neS (SE.pl (se_A a_repr (sa_cons (SE.pl (se_var 16)) sa_nil))) (SE.pl (se_A a_repr (sa_cons (SE.pl (SN.se (sn_lst (sa_cons (SE.pl (se_var 3)) (sa_cons (SE.pl (se_var 4)) (sa_cons (SE.pl (se_var 5)) (sa_cons (SE.pl (se_var 6)) (sa_cons (SE.pl (se_var 3)) (sa_cons (SE.pl (se_var 4)) (sa_cons (SE.pl (se_var 5)) (sa_cons (SE.pl (se_var 6)) (sa_cons (SE.pl (se_var 3)) (sa_cons (SE.pl (se_var 4)) (sa_cons (SE.pl (se_var 5)) (sa_cons (SE.pl (se_var 6)) (sa_cons (SE.pl (se_var 3)) sa_nil)))))))))))))))) sa_nil))))) (ss_ret se_bl) ss_nx)
      (ss_seq (ss_set (SN.se (sn_lst (sa_cons (SE.pl (se_1 (g_fdG (tb_name_ok T)) (SE.pl (se_2 g_ixL (SE.pl (se_var 10)) (SE.pl se_int))))) (sa_cons (SE.pl (se_1 (g_fdG (tb_key_ok T)) (SE.pl (se_2 g_ixL (SE.pl (se_var 10)) (SE.pl se_int))))) (sa_cons (SE.pl (se_1 (g_fdG (tb_name_ok T)) (SE.pl (se_2 g_ixL (SE.pl (se_var 10)) (SE.pl se_int))))) (sa_cons (SE.pl (se_1 (g_fdG (tb_key_ok T)) (SE.pl (se_2 g_ixL (SE.pl (se_var 10)) (SE.pl se_int))))) (sa_cons (SE.pl (se_1 (g_fdG (tb_owner_ok T)) (SE.pl (se_var 7)))) (sa_cons (SE.pl (se_1 (g_fdG (tb_key_ok T)) (SE.pl (se_var 7)))) (sa_cons (SE.pl (se_1 (g_fdG (tb_path_ok T)) (SE.pl (se_var 7)))) sa_nil))))))))))
      (ss_seq (ss_set (SN.se (sn_lst (sa_cons (SE.pl (se_1 (g_fdG (tb_owner_ok T)) (SE.pl (se_var 9)))) (sa_cons (SE.pl (se_1 (g_fdG (tb_key_ok T)) (SE.pl (se_var 9)))) (sa_cons (SE.pl (se_1 (g_fdG (tb_path_ok T)) (SE.pl (se_var 9)))) (sa_cons (SE.pl (se_1 (g_fdG (tb_name_ok T)) (SE.pl (se_var 8)))) (sa_cons (SE.pl (se_1 (g_fdG (tb_owner_ok T)) (SE.pl (se_var 8)))) (sa_cons (SE.pl (se_1 (g_fdG (tb_key_ok T)) (SE.pl (se_var 8)))) (sa_cons (SE.pl (se_1 (g_fdG (tb_path_ok T)) (SE.pl (se_var 8)))) sa_nil))))))))))
      (ss_seq (ss_if (st_test (se_2 g_neS (SE.pl (se_A a_repr (sa_cons (SE.pl (SN.se (sn_2 n_catL (SE.pl (se_var 17)) (SE.pl (se_var 18))))) sa_nil))) (SE.pl (se_A a_repr (sa_cons (SE.pl (SN.se (sn_lst (sa_cons (SE.pl (se_var 5)) (sa_cons (SE.pl (se_var 6)) (sa_cons (SE.pl (se_var 4)) (sa_cons (SE.pl (se_var 3)) (sa_cons (SE.pl (se_var 3)) (sa_cons (SE.pl (se_var 4)) (sa_cons (SE.pl (se_var 5)) (sa_cons (SE.pl (se_var 4)) (sa_cons (SE.pl (se_var 5)) (sa_cons (SE.pl (se_var 3)) (sa_cons (SE.pl (se_var 3)) (sa_cons (SE.pl (se_var 4)) (sa_cons (SE.pl (se_var 5)) (sa_cons (SE.pl (se_var 6)) sa_nil))))))))))))))))) sa_nil))))) (ss_ret se_bl) ss_nx)
      (ss_if (st_not (st_B (se_call (sa_cons (SE.pl (se_call (sa_cons (sp_slot 2) (sa_cons (SE.pl se_int) sa_nil)))) (sa_cons (SE.pl (se_var 3)) (sa_cons (SE.pl (se_var 4)) (sa_cons (SE.pl (se_var 5)) (sa_cons (SE.pl (se_var 6)) sa_nil)))))))) (ss_ret se_bl) ss_nx)))))))))))))))
      (ss_ret se_bl))
end
theorem szB : 200000 ≤ sizeLine := by rw [sizeLine_eq]; decide
/-! ### evaluation: the law's draws -/
theorem draw_eq {b : Bg} {m : Int} (hm : 0 < m) (hw : Wd m) : m__law_draw [bgD b, .int m] = .ok (.int (dig b m), [bgD (nxt b m), .int m]) := by
  obtain ⟨x, y⟩ := b
  unfold m__law_draw k__law_draw b__law_draw bgD dig nxt
  by_cases h1 : (0 : Int) < x
  · have e1 := gMod_ok (i := x) hm
    have e2 := gDivW_ok (i := x) hw
    simp (config := { dsimp := false }) only [evset, if_true, if_false, reduceIte, Int.reduceLT, Int.reduceLE, Int.reduceNeg, Int.reduceAdd, Int.reduceSub, Int.reduceMul, Int.reduceToNat, Int.reduceEq, Int.reduceNe, Nat.reduceAdd, Nat.reduceSub, Nat.reduceLT, Nat.reduceLeDiff, Nat.reduceEqDiff, Nat.reduceBEq, Nat.reduceBNe, h1, e1, e2]
  · have e1 := fun i => gMod_ok (i := i) hm
    have e3 := fun i => gMod_ok (i := i) (j := 2147483647) (by decide)
    have e4 := fun i => gMod_ok (i := i) (j := 2147483629) (by decide)
    have e5 := fun i => gMul_r (i := i) (j := 69621) (by decide) (by decide)
    have e6 := fun i => gMul_r (i := i) (j := 16807) (by decide) (by decide)
    simp (config := { dsimp := false }) only [evset, if_true, if_false, reduceIte, Int.reduceLT, Int.reduceLE, Int.reduceNeg, Int.reduceAdd, Int.reduceSub, Int.reduceMul, Int.reduceToNat, Int.reduceEq, Int.reduceNe, Nat.reduceAdd, Nat.reduceSub, Nat.reduceLT, Nat.reduceLeDiff, Nat.reduceEqDiff, Nat.reduceBEq, Nat.reduceBNe, h1, e1, e3, e4, e5, e6]
theorem wd_small {n : Nat} (h1 : 1 ≤ n) (h2 : n ≤ 1000) : Wd (n : Int) := Wd.of (by omega) (by omega)
theorem dig_ix {b : Bg} {n : Nat} (h1 : 1 ≤ n) : ∃ j : Nat, j < n ∧ dig b (n : Int) = (j : Int) := by
  have h := dig_ge (b := b) (m := n) (by omega)
  have h' := dig_lt (b := b) (m := n) (by omega)
  exact ⟨(dig b n).toNat, by omega, by omega⟩
theorem enum_int (ns : List Int) : ∀ d ∈ enumD (ns.map D.int), ∃ (k : Nat) (e : Int), d = .tup [.int k, .int e] := fun d hd => by
  unfold enumD at hd
  obtain ⟨k, hk, rfl⟩ := List.mem_mapIdx.mp hd
  exact ⟨k, ns[k]'(by simpa using hk), by simp⟩
theorem bag_ev (ns : List Int) (i : Nat) : ∃ b : Bg, m__law_bag [.lsq (ns.map .int), .int i] = .ok (bgD b, [.lsq (ns.map .int), .int i]) := by
  unfold m__law_bag k__law_bag b__law_bag
  have e5 := fun i => gMul_l (i := 6151) (j := i) (by decide) (by decide)
  have e6 := fun i => gMul_r (i := i) (j := 39373) (by decide) (by decide)
  have e7 := fun i => gMul_l (i := 57) (j := i) (by decide) (by decide)
  have e8 := fun i => gMod_ok (i := i) (j := 2147483579) (by decide)
  have e9 := fun i => gMod_ok (i := i) (j := 2147483423) (by decide)
  have s2 : 2 ≤ sizeLine := by decide
  have p18 : gPow (.int 10) (.int 18) = some (.int 1000000000000000000) := gPow_ok (by decide) (by decide) (by decide)
  have s63 : cutD (ns.map D.int) none (some 63) = (ns.take 63).map D.int := by
    unfold cutD HT.sIx
    simp
  have en : gEnumL [.lst ((ns.take 63).map D.int)] = some (enumD ((ns.take 63).map D.int)) := rfl
  by_cases h : (i : Int) < (ns.length : Int)
  · have hi : i < ns.length := by omega
    have ixn : ixN (ns.map D.int).length (i : Int) = some i := by unfold ixN; simp [hi]
    obtain ⟨c, hc⟩ : ∃ c : Int, atI (ns.map D.int) (i : Int) = some (.int c) := ⟨ns[i], by unfold atI; rw [ixn]; simp [hi]⟩
    simp (config := { dsimp := false }) only [evset, if_true, if_false, reduceIte, Int.reduceLT, Int.reduceLE, Int.reduceNeg, Int.reduceAdd, Int.reduceSub, Int.reduceMul, Int.reduceToNat, Int.reduceEq, Int.reduceNe, Nat.reduceAdd, Nat.reduceSub, Nat.reduceLT, Nat.reduceLeDiff, Nat.reduceEqDiff, Nat.reduceBEq, Nat.reduceBNe, h, e5, List.length_map, s63, hc, en]
    refine for_ind (fun ds ρ => ∃ (x : Int) (a c2 : Sl), isI a = false ∧ isI c2 = false ∧ (∀ d ∈ ds, ∃ (k : Nat) (e : Int), d = .tup [.int k, .int e]) ∧ ρ = [.v (.lsq (ns.map .int)), .v (.int i), .v (.int c), .v (.int x), a, c2])
      (fun o => ∃ b : Bg, runK true [Kd.v, Kd.v] (Out.seq o _) = .ok (bgD b, [.lsq (ns.map .int), .int i])) ?_ ?_ _ _ ⟨_, .e, .e, rfl, rfl, fun d hd => enum_int (ns.take 63) d (by rw [← s63]; exact hd), rfl⟩
    · rintro ρ ⟨x, a, c', ha, hc, _, rfl⟩
      by_cases hq : (1000000000000000000 : Int) ≤ (if c < 0 then -c else c)
      · refine ⟨((if c < 0 then -c else c), x), ?_⟩
        simp (config := { dsimp := false }) only [evset, if_true, if_false, reduceIte, Int.reduceLT, Int.reduceLE, Int.reduceNeg, Int.reduceAdd, Int.reduceSub, Int.reduceMul, Int.reduceToNat, Int.reduceEq, Int.reduceNe, Nat.reduceAdd, Nat.reduceSub, Nat.reduceLT, Nat.reduceLeDiff, Nat.reduceEqDiff, Nat.reduceBEq, Nat.reduceBNe, p18, bgD, ge_iff_le, hq, s2]
        trace_state
      · refine ⟨(0, x), ?_⟩
        simp (config := { dsimp := false }) only [evset, if_true, if_false, reduceIte, Int.reduceLT, Int.reduceLE, Int.reduceNeg, Int.reduceAdd, Int.reduceSub, Int.reduceMul, Int.reduceToNat, Int.reduceEq, Int.reduceNe, Nat.reduceAdd, Nat.reduceSub, Nat.reduceLT, Nat.reduceLeDiff, Nat.reduceEqDiff, Nat.reduceBEq, Nat.reduceBNe, p18, bgD, ge_iff_le, hq, s2]
    · rintro d ds ρ w ⟨x, a, c', ha, hc, hd, rfl⟩ ih
      obtain ⟨k, e, rfl⟩ := hd d List.mem_cons_self
      simp (config := { dsimp := false }) only [evset, if_true, if_false, reduceIte, Int.reduceLT, Int.reduceLE, Int.reduceNeg, Int.reduceAdd, Int.reduceSub, Int.reduceMul, Int.reduceToNat, Int.reduceEq, Int.reduceNe, Nat.reduceAdd, Nat.reduceSub, Nat.reduceLT, Nat.reduceLeDiff, Nat.reduceEqDiff, Nat.reduceBEq, Nat.reduceBNe, gNk_f ha, gNk_f hc, e6, e7, e8, e9]
      exact ih _ ⟨_, .v (.int k), .v (.int e), rfl, rfl, fun d hd' => hd d (List.mem_cons_of_mem _ hd'), rfl⟩
  · simp (config := { dsimp := false }) only [evset, if_true, if_false, reduceIte, Int.reduceLT, Int.reduceLE, Int.reduceNeg, Int.reduceAdd, Int.reduceSub, Int.reduceMul, Int.reduceToNat, Int.reduceEq, Int.reduceNe, Nat.reduceAdd, Nat.reduceSub, Nat.reduceLT, Nat.reduceLeDiff, Nat.reduceEqDiff, Nat.reduceBEq, Nat.reduceBNe, h, e5, List.length_map, s63, en]
    refine for_ind (fun ds ρ => ∃ (x : Int) (a c2 : Sl), isI a = false ∧ isI c2 = false ∧ (∀ d ∈ ds, ∃ (k : Nat) (e : Int), d = .tup [.int k, .int e]) ∧ ρ = [.v (.lsq (ns.map .int)), .v (.int i), .v (.int 0), .v (.int x), a, c2])
      (fun o => ∃ b : Bg, runK true [Kd.v, Kd.v] (Out.seq o _) = .ok (bgD b, [.lsq (ns.map .int), .int i])) ?_ ?_ _ _ ⟨_, .e, .e, rfl, rfl, fun d hd => enum_int (ns.take 63) d (by rw [← s63]; exact hd), rfl⟩
    · rintro ρ ⟨x, a, c', ha, hc, _, rfl⟩
      refine ⟨(0, x), ?_⟩
      simp (config := { dsimp := false }) only [evset, if_true, if_false, reduceIte, Int.reduceLT, Int.reduceLE, Int.reduceNeg, Int.reduceAdd, Int.reduceSub, Int.reduceMul, Int.reduceToNat, Int.reduceEq, Int.reduceNe, Nat.reduceAdd, Nat.reduceSub, Nat.reduceLT, Nat.reduceLeDiff, Nat.reduceEqDiff, Nat.reduceBEq, Nat.reduceBNe, p18, bgD, s2]
    · rintro d ds ρ w ⟨x, a, c', ha, hc, hd, rfl⟩ ih
      obtain ⟨k, e, rfl⟩ := hd d List.mem_cons_self
      simp (config := { dsimp := false }) only [evset, if_true, if_false, reduceIte, Int.reduceLT, Int.reduceLE, Int.reduceNeg, Int.reduceAdd, Int.reduceSub, Int.reduceMul, Int.reduceToNat, Int.reduceEq, Int.reduceNe, Nat.reduceAdd, Nat.reduceSub, Nat.reduceLT, Nat.reduceLeDiff, Nat.reduceEqDiff, Nat.reduceBEq, Nat.reduceBNe, gNk_f ha, gNk_f hc, e6, e7, e8, e9]
      exact ih _ ⟨_, .v (.int k), .v (.int e), rfl, rfl, fun d hd' => hd d (List.mem_cons_of_mem _ hd'), rfl⟩

/-! ### what a value prints as -/
structure RV (d : D) (p : PyData) : Prop where
  e : toPy d = some p
  sh : p.showable = true
  nd : p.hasDict = false
  dp : p.depth ≤ 3
  ln : p.shown.length ≤ 40000
  lo : ∀ i, p = .int i → i.natAbs.log2 < 1920
structure RVs (ds : List D) (ps : List PyData) (n : Nat) : Prop where
  e : toPys ds = some ps
  sh : PyData.showableAll ps = true
  nd : PyData.hasDictAll ps = false
  dp : PyData.depthAll ps ≤ 3
  ln : ((PyData.shownAll ps).map (·.length)).sum ≤ 40000 * n
  le : (PyData.shownAll ps).length = n
theorem rvs : ∀ {ds : List D}, (∀ d ∈ ds, ∃ p, RV d p) → ∃ ps, RVs ds ps ds.length
  | [], _ => ⟨[], by rw [toPys], by rw [PyData.showableAll], by rw [PyData.hasDictAll], by rw [PyData.depthAll]; omega, by rw [PyData.shownAll]; exact Nat.zero_le _, by rw [PyData.shownAll]; rfl⟩
  | d :: ds, h => by
    obtain ⟨p, hp⟩ := h d (.head _)
    obtain ⟨ps, hs⟩ := rvs fun x hx => h x (.tail _ hx)
    refine ⟨p :: ps, by rw [toPys, hp.e, hs.e]; rfl, by rw [PyData.showableAll, hp.sh, hs.sh]; rfl, by rw [PyData.hasDictAll, hp.nd, hs.nd]; rfl, by rw [PyData.depthAll]; exact Nat.max_le.mpr ⟨hp.dp, hs.dp⟩, ?_, ?_⟩
    · rw [PyData.shownAll, List.map_cons, List.sum_cons, List.length_cons]
      have := hp.ln
      have := hs.ln
      omega
    · rw [PyData.shownAll, List.length_cons, List.length_cons, hs.le]
theorem szM : sizeLine = 16777216 := sizeLine_eq
theorem gRepr_of {d : D} {p : PyData} (e : toPy d = some p) (h1 : p.showable = true) (h2 : p.hasDict = false) (h3 : p.depth ≤ 50) (h4 : p.shown.length ≤ sizeLine) (h5 : ∀ i, p = .int i → i.natAbs.log2 < 1920) : ∃ z, gRepr [d] = some (.str z) := by
  unfold gRepr
  simp only [e, Option.bind_some]
  exact ⟨_, if_pos ⟨h1, h2, h3, h4, h5⟩⟩
theorem repr_lst {ds : List D} (h : ∀ d ∈ ds, ∃ p, RV d p) (hl : ds.length ≤ 100) : ∃ z, gRepr [.lst ds] = some (.str z) := by
  obtain ⟨ps, hs⟩ := rvs h
  refine gRepr_of (p := .list ps) (by rw [toPy, hs.e]; rfl) (by rw [PyData.showable]; exact hs.sh) (by rw [PyData.hasDict]; exact hs.nd) (by rw [PyData.depth]; have := hs.dp; omega) ?_ (fun i z => nomatch z)
  rw [PyData.shown]
  have := listText_len_le (PyData.shownAll ps)
  have := hs.ln
  have := hs.le
  have := szM
  omega
theorem repr_tup {ds : List D} (h : ∀ d ∈ ds, ∃ p, RV d p) (hl : ds.length ≤ 100) : ∃ z, gRepr [.tup ds] = some (.str z) := by
  obtain ⟨ps, hs⟩ := rvs h
  refine gRepr_of (p := .tuple ps) (by rw [toPy, hs.e]; rfl) (by rw [PyData.showable]; exact hs.sh) (by rw [PyData.hasDict]; exact hs.nd) (by rw [PyData.depth]; have := hs.dp; omega) ?_ (fun i z => nomatch z)
  rw [PyData.shown]
  have := tupleText_len_le (PyData.shownAll ps)
  have := hs.ln
  have := hs.le
  have := szM
  omega
theorem repr_one {d : D} {p : PyData} (h : RV d p) : ∃ z, gRepr [d] = some (.str z) :=
  gRepr_of h.e h.sh h.nd (Nat.le_trans h.dp (by decide)) (by have := h.ln; have := szM; omega) h.lo
theorem rv_int {i : Int} (h : i.natAbs.log2 < 1920) : RV (.int i) (.int i) := ⟨by rw [toPy], by rw [PyData.showable]; exact decide_eq_true h, by rw [PyData.hasDict], by rw [PyData.depth]; omega, by
  rw [PyData.shown]
  have := int_text_len_1921 h
  omega, fun j e => by cases e; exact h⟩
theorem rv_non : RV .non .none := ⟨by rw [toPy], by rw [PyData.showable], by rw [PyData.hasDict], by rw [PyData.depth]; omega, by rw [PyData.shown]; decide +kernel, fun j e => nomatch e⟩
theorem rv_bl : RV (.bl true) (.bool true) := ⟨by rw [toPy], by rw [PyData.showable], by rw [PyData.hasDict], by rw [PyData.depth]; omega, by rw [PyData.shown]; decide +kernel, fun j e => nomatch e⟩
theorem rv_str {x : List Nat} (h : x.length ≤ 2000) (hc : ∀ c ∈ x, c < 16 ^ 8) : RV (.str x) (.str (S x)) := ⟨by rw [toPy], by rw [PyData.showable], by rw [PyData.hasDict], by rw [PyData.depth]; omega, by
  rw [PyData.shown]
  have := StrLaws.reprText_len (S x) (fun c hcc => hc c (by simpa [S] using hcc))
  have hl : (S x).length = x.length := S_len x
  omega, fun j e => nomatch e⟩
theorem rv_tup {i : Int} (h : i.natAbs.log2 < 1920) : ∃ p, RV (.tup [.int i, .str (kwS "init")]) p := by
  refine ⟨.tuple [.int i, .str (S (kwS "init"))], by rw [toPy, toPys, toPy, toPys, toPy, toPys]; rfl, ?_, ?_, ?_, ?_, fun j e => nomatch e⟩
  · rw [PyData.showable, PyData.showableAll, PyData.showableAll, PyData.showableAll, PyData.showable, PyData.showable]; simpa using h
  · rw [PyData.hasDict, PyData.hasDictAll, PyData.hasDictAll, PyData.hasDictAll, PyData.hasDict, PyData.hasDict]; rfl
  · rw [PyData.depth, PyData.depthAll, PyData.depthAll, PyData.depthAll, PyData.depth, PyData.depth]; simp
  · rw [PyData.shown, PyData.shownAll, PyData.shownAll, PyData.shownAll, PyData.shown, PyData.shown]
    have h1 := tupleText_len_le [((toString i : String) : Str), reprText (S (kwS "init"))]
    have h2 := int_text_len_1921 h
    have h3 : (reprText (S (kwS "init"))).length ≤ 10 := by decide +kernel
    simp only [List.map_cons, List.map_nil, List.sum_cons, List.sum_nil, List.length_cons, List.length_nil] at h1
    omega

theorem rv_str' {x : List Nat} (h : x.length ≤ 2000) (hc : ∀ c ∈ x, c < 16 ^ 8) : ∃ p, RV (.str x) p := ⟨_, rv_str h hc⟩
theorem log_lt {i : Int} (h0 : 0 ≤ i) (h1 : i < 10 ^ 30) : i.natAbs.log2 < 1920 := by
  by_cases h : i.natAbs = 0
  · rw [h]; decide
  · rw [Nat.log2_lt h]
    have h2 : i.natAbs < 10 ^ 30 := by omega
    exact Nat.lt_of_lt_of_le (Nat.lt_trans h2 (show 10 ^ 30 < 2 ^ 100 by decide)) (Nat.pow_le_pow_right (by decide) (by decide))
theorem wd30 : Wd (10 ^ 30 : Int) := ⟨by decide, Nat.lt_of_lt_of_le (show (10 ^ 30 : Int).natAbs < 2 ^ 100 by decide) (Nat.pow_le_pow_right (by decide) (by decide))⟩
theorem value_ev (b : Bg) : ∃ (v : D) (b' : Bg), m__law_value [bgD b] = .ok (v, [bgD b']) ∧ ∃ p, RV v p := by
  have dr1 := draw_eq (b := b) (m := 6) (by decide) (Wd.of (by decide) (by decide))
  obtain ⟨j, hj, ej⟩ := dig_ix (b := b) (n := 6) (by decide)
  have ej : dig b 6 = (j : Int) := ej
  have dr2 := draw_eq (b := nxt b 6) (m := 10 ^ 30) (by decide) wd30
  have m0 : 0 ≤ dig (nxt b 6) (10 ^ 30) := dig_ge (by decide)
  have m1 : dig (nxt b 6) (10 ^ 30) < 10 ^ 30 := dig_lt (by decide)
  have hlg := log_lt m0 m1
  have p30 : gPow (.int 10) (.int 30) = some (.int (10 ^ 30)) := gPow_ok (by decide) (by decide) (by decide)
  generalize dig (nxt b 6) (10 ^ 30) = m at *
  have gs : gStrI [.int m] = some (.str (toString m : Str).cps.toList) := if_pos hlg
  have len := int_text_len_1921 hlg
  have len' : (toString m : Str).cps.toList.length ≤ 1921 := by rw [Array.length_toList]; exact len
  have gc : gCatS (.str (kwS "W")) (.str (toString m : Str).cps.toList) = some (.str (kwS "W" ++ (toString m : Str).cps.toList)) := by
    rw [gCatS_s, if_pos]
    have : (kwS "W").length = 1 := by decide
    have := szM
    omega
  have s2 : 2 ≤ sizeLine := by decide
  have s6 : 6 ≤ sizeLine := by decide
  have chs : ∀ c ∈ kwS "W" ++ (toString m : Str).cps.toList, c < 16 ^ 8 := fun c hc => by
    rcases List.mem_append.mp hc with h | h
    · exact (show ∀ c ∈ kwS "W", c < 16 ^ 8 by decide) c h
    · have h' : c ∈ (PySem.Str.ofString (toString m)).cps.toList := h
      rw [PySem.Str.ofString_eq_toList] at h'
      obtain ⟨ch, hm, rfl⟩ := List.mem_map.mp h'
      exact Nat.lt_trans (int_ascii m ch hm) (by decide)
  unfold m__law_value k__law_value b__law_value
  have key : ∀ v, atI [D.int m, .int (-m), .non, .tup [.int m, .str (kwS "init")], .bl true, .str (kwS "W" ++ (toString m : Str).cps.toList)] (j : Int) = some v → ∃ p, RV v p := by
    intro v hv
    have hj6 : j = 0 ∨ j = 1 ∨ j = 2 ∨ j = 3 ∨ j = 4 ∨ j = 5 := by omega
    rcases hj6 with rfl | rfl | rfl | rfl | rfl | rfl
    · cases (show some (D.int m) = some v from hv); exact ⟨_, rv_int hlg⟩
    · cases (show some (D.int (-m)) = some v from hv); exact ⟨_, rv_int (by rw [Int.natAbs_neg]; exact hlg)⟩
    · cases (show some D.non = some v from hv); exact ⟨_, rv_non⟩
    · cases (show some (D.tup [.int m, .str (kwS "init")]) = some v from hv); exact rv_tup hlg
    · cases (show some (D.bl true) = some v from hv); exact ⟨_, rv_bl⟩
    · cases (show some (D.str (kwS "W" ++ (toString m : Str).cps.toList)) = some v from hv)
      refine rv_str' ?_ chs
      have : (kwS "W").length = 1 := by decide
      rw [List.length_append]
      omega
  obtain ⟨v, hv⟩ : ∃ v, atI [D.int m, .int (-m), .non, .tup [.int m, .str (kwS "init")], .bl true, .str (kwS "W" ++ (toString m : Str).cps.toList)] (j : Int) = some v := by
    have hj6 : j = 0 ∨ j = 1 ∨ j = 2 ∨ j = 3 ∨ j = 4 ∨ j = 5 := by omega
    rcases hj6 with rfl | rfl | rfl | rfl | rfl | rfl <;> exact ⟨_, rfl⟩
  refine ⟨v, nxt (nxt b 6) (10 ^ 30), ?_, key v hv⟩
  simp (config := { dsimp := false }) only [evset, if_true, if_false, reduceIte, Int.reduceLT, Int.reduceLE, Int.reduceNeg, Int.reduceAdd, Int.reduceSub, Int.reduceMul, Int.reduceToNat, Int.reduceEq, Int.reduceNe, Nat.reduceAdd, Nat.reduceSub, Nat.reduceLT, Nat.reduceLeDiff, Nat.reduceEqDiff, Nat.reduceBEq, Nat.reduceBNe, k__law_draw, dr1, ej, p30, dr2, gs, gc, s2, s6, hv, gNeg_i]

/-! ### the kinds -/
structure Kn1 (k : Int) (c : Str) : Prop where
  kd : ∀ fs, m__law_kinds [.exn c fs] = .ok (.lst [.int k], [.exn c fs])
  ea : ∀ fs, gIsG ks_EarlyError (.exn c fs) = some (.bl (decide (k < 15)))
  va : ∀ fs, gIsG ks_ValueError (.exn c fs) = some (.bl (decide (k < 15)))
  ru : ∀ fs, gIsG ks_RuntimeError (.exn c fs) = some (.bl (decide (15 ≤ k) && decide (k < 18)))
  lo : ∀ fs, gIsG ks_LookupError (.exn c fs) = some (.bl (decide (k = 18)))
theorem kn_0 : Kn1 0 "BadText" := ⟨fun _ => by kernel_rfl, fun _ => by kernel_rfl, fun _ => by kernel_rfl, fun _ => by kernel_rfl, fun _ => by kernel_rfl⟩
theorem kn_1 : Kn1 1 "TooMany" := ⟨fun _ => by kernel_rfl, fun _ => by kernel_rfl, fun _ => by kernel_rfl, fun _ => by kernel_rfl, fun _ => by kernel_rfl⟩
theorem kn_2 : Kn1 2 "Twice" := ⟨fun _ => by kernel_rfl, fun _ => by kernel_rfl, fun _ => by kernel_rfl, fun _ => by kernel_rfl, fun _ => by kernel_rfl⟩
theorem kn_3 : Kn1 3 "NoClass" := ⟨fun _ => by kernel_rfl, fun _ => by kernel_rfl, fun _ => by kernel_rfl, fun _ => by kernel_rfl, fun _ => by kernel_rfl⟩
theorem kn_4 : Kn1 4 "NoOrder" := ⟨fun _ => by kernel_rfl, fun _ => by kernel_rfl, fun _ => by kernel_rfl, fun _ => by kernel_rfl, fun _ => by kernel_rfl⟩
theorem kn_5 : Kn1 5 "NotABase" := ⟨fun _ => by kernel_rfl, fun _ => by kernel_rfl, fun _ => by kernel_rfl, fun _ => by kernel_rfl, fun _ => by kernel_rfl⟩
theorem kn_6 : Kn1 6 "Final" := ⟨fun _ => by kernel_rfl, fun _ => by kernel_rfl, fun _ => by kernel_rfl, fun _ => by kernel_rfl, fun _ => by kernel_rfl⟩
theorem kn_7 : Kn1 7 "NotChained" := ⟨fun _ => by kernel_rfl, fun _ => by kernel_rfl, fun _ => by kernel_rfl, fun _ => by kernel_rfl, fun _ => by kernel_rfl⟩
theorem kn_8 : Kn1 8 "NotLawful" := ⟨fun _ => by kernel_rfl, fun _ => by kernel_rfl, fun _ => by kernel_rfl, fun _ => by kernel_rfl, fun _ => by kernel_rfl⟩
theorem kn_9 : Kn1 9 "BadKey" := ⟨fun _ => by kernel_rfl, fun _ => by kernel_rfl, fun _ => by kernel_rfl, fun _ => by kernel_rfl, fun _ => by kernel_rfl⟩
theorem kn_10 : Kn1 10 "BadName" := ⟨fun _ => by kernel_rfl, fun _ => by kernel_rfl, fun _ => by kernel_rfl, fun _ => by kernel_rfl, fun _ => by kernel_rfl⟩
theorem kn_11 : Kn1 11 "BadOrder" := ⟨fun _ => by kernel_rfl, fun _ => by kernel_rfl, fun _ => by kernel_rfl, fun _ => by kernel_rfl, fun _ => by kernel_rfl⟩
theorem kn_12 : Kn1 12 "BadDeed" := ⟨fun _ => by kernel_rfl, fun _ => by kernel_rfl, fun _ => by kernel_rfl, fun _ => by kernel_rfl, fun _ => by kernel_rfl⟩
theorem kn_13 : Kn1 13 "BadLimit" := ⟨fun _ => by kernel_rfl, fun _ => by kernel_rfl, fun _ => by kernel_rfl, fun _ => by kernel_rfl, fun _ => by kernel_rfl⟩
theorem kn_14 : Kn1 14 "Far" := ⟨fun _ => by kernel_rfl, fun _ => by kernel_rfl, fun _ => by kernel_rfl, fun _ => by kernel_rfl, fun _ => by kernel_rfl⟩
theorem kn_15 : Kn1 15 "Gap" := ⟨fun _ => by kernel_rfl, fun _ => by kernel_rfl, fun _ => by kernel_rfl, fun _ => by kernel_rfl, fun _ => by kernel_rfl⟩
theorem kn_16 : Kn1 16 "Long" := ⟨fun _ => by kernel_rfl, fun _ => by kernel_rfl, fun _ => by kernel_rfl, fun _ => by kernel_rfl, fun _ => by kernel_rfl⟩
theorem kn_17 : Kn1 17 "NoObject" := ⟨fun _ => by kernel_rfl, fun _ => by kernel_rfl, fun _ => by kernel_rfl, fun _ => by kernel_rfl, fun _ => by kernel_rfl⟩
theorem kn_18 : Kn1 18 "NoEnd" := ⟨fun _ => by kernel_rfl, fun _ => by kernel_rfl, fun _ => by kernel_rfl, fun _ => by kernel_rfl, fun _ => by kernel_rfl⟩
theorem eqL1 {k : Int} : gEqD true (.lst [.int k]) (.lst [.int k]) = some (.bl false) := by
  have e : toPy (.lst [.int k]) = some (.list [.int k]) := by rw [toPy, toPys, toPy, toPys]; rfl
  have hs : SeqAt.shaped (.list [.int k]) = true := by
    unfold SeqAt.shaped
    rw [PyData.canLay0, PyData.canLayAll0, PyData.canLay0, PyData.canLayAll0, PyData.depth, PyData.depthAll, PyData.depth, PyData.depthAll]; rfl
  have he : PyData.eqv (.list [.int k]) (.list [.int k]) = true := by
    rw [PyData.eqv, PyData.eqvAll, PyData.eqvAll, PyData.eqv]; simp
  unfold gEqD
  rw [e]
  simp only [hs, and_self, if_true, he, Bool.not_true]
noncomputable def loopB : MS := (sSeq (sPar2 13 14 (mCons (mV (m2 gLt (mV (mL 11)) (mV (mC (.int 15))))) (mCons (mV (m2 (gEqS false) (mV (mL 11)) (mV (mC (.int 18))))) mNil)))
    (sSeq (sSet 15 (mChain gLe gLt (mV (mC (.int 15))) (mV (mL 11)) (mV (mC (.int 18)))))
    (sSeq (sIf (tOr' (tB' (m2 (gEqD true) (mV (mCall k__law_kinds m__law_kinds (mCons (mV (mL 12)) mNil))) (mV (mLst (mCons (mV (mL 11)) mNil))))) (tB' (m2 (gEqS true) (mV (m1 (gIsG ks_EarlyError) (mV (mL 12)))) (mV (mL 13)))))
    (sRet (mC (.bl false)))
    sNx)
    (sSeq (sIf (tB' (m2 (gEqS true) (mV (m1 (gIsG ks_ValueError) (mV (mL 12)))) (mV (mL 13))))
    (sRet (mC (.bl false)))
    sNx)
    (sSeq (sIf (tB' (m2 (gEqS true) (mV (m1 (gIsG ks_RuntimeError) (mV (mL 12)))) (mV (mL 15))))
    (sRet (mC (.bl false)))
    sNx)
    (sIf (tB' (m2 (gEqS true) (mV (m1 (gIsG ks_LookupError) (mV (mL 12)))) (mV (mL 14))))
    (sRet (mC (.bl false)))
    sNx))))))
theorem eqSI {k n : Int} : gEqS false (.int k) (.int n) = some (.bl (decide (k = n))) := by
  show (if scal (V.int k) (V.int n) = true then some (D.bl (decide (V.int k = V.int n))) else none) = _
  rw [if_pos (show scal (V.int k) (V.int n) = true from rfl)]
  simp
theorem eqBl {x : Bool} : gEqS true (.bl x) (.bl x) = some (.bl false) := by cases x <;> rfl
theorem loopB_ev {k : Int} {c : Str} {fs : List (Str × D)} {p0 p1 p2 p3 p4 p5 p6 p7 p8 p9 p10 p13 p14 p15 p16 p17 p18 p19 : Sl} (h13 : isI p13 = false) (h14 : isI p14 = false) (h15 : isI p15 = false) (K : Kn1 k c) :
    ∃ q13 q14 q15, (isI q13 = false ∧ isI q14 = false ∧ isI q15 = false) ∧ loopB [p0, p1, p2, p3, p4, p5, p6, p7, p8, p9, p10, .v (.int k), .v (.exn c fs), p13, p14, p15, p16, p17, p18, p19] =
      .nx [p0, p1, p2, p3, p4, p5, p6, p7, p8, p9, p10, .v (.int k), .v (.exn c fs), q13, q14, q15, p16, p17, p18, p19] := by
  refine ⟨.v (.bl (decide (k < 15))), .v (.bl (decide (k = 18))), .v (.bl (decide (15 ≤ k) && decide (k < 18))), ⟨rfl, rfl, rfl⟩, ?_⟩
  have e1 := K.kd fs
  have e2 := K.ea fs
  have e3 := K.va fs
  have e4 := K.ru fs
  have e5 := K.lo fs
  have s1 : 1 ≤ sizeLine := by decide
  unfold loopB
  by_cases h : (15 : Int) ≤ k
  · simp (config := { dsimp := false }) only [evset, if_true, if_false, reduceIte, Int.reduceLT, Int.reduceLE, Int.reduceNeg, Int.reduceAdd, Int.reduceSub, Int.reduceMul, Int.reduceToNat, Int.reduceEq, Int.reduceNe, Nat.reduceAdd, Nat.reduceSub, Nat.reduceLT, Nat.reduceLeDiff, Nat.reduceEqDiff, Nat.reduceBEq, Nat.reduceBNe, putSK_f h13, putSK_f h14, putSK_f h15, k__law_kinds, e1, e2, e3, e4, e5, eqL1, eqBl, eqSI, s1, h]
  · simp (config := { dsimp := false }) only [evset, if_true, if_false, reduceIte, Int.reduceLT, Int.reduceLE, Int.reduceNeg, Int.reduceAdd, Int.reduceSub, Int.reduceMul, Int.reduceToNat, Int.reduceEq, Int.reduceNe, Nat.reduceAdd, Nat.reduceSub, Nat.reduceLT, Nat.reduceLeDiff, Nat.reduceEqDiff, Nat.reduceBEq, Nat.reduceBNe, putSK_f h13, putSK_f h14, putSK_f h15, k__law_kinds, e1, e2, e3, e4, e5, eqL1, eqBl, eqSI, s1, h, Bool.false_and]

noncomputable def st3 : MS := (sAsg (mLc (mItA gRng1 (mCons (mV (mC (.int 4))) mNil)) (gNm 19) mYes (mCall k__law_value m__law_value (mCons (mS 2) mNil)) [19]) (gLp 4 (gCo (gNm 3) (gCo (gNm 4) (gCo (gNm 5) (gCo (gNm 6) gNo))))))
theorem st3_ev {b : Bg} {p0 p1 p3 p4 p5 p6 p7 p8 p9 p10 p11 p12 p13 p14 p15 p16 p17 p18: Sl} (h3 : isI p3 = false) (h4 : isI p4 = false) (h5 : isI p5 = false) (h6 : isI p6 = false) :
    ∃ (v1 v2 v3 v4 : D) (b' : Bg), (∀ v ∈ [v1, v2, v3, v4], ∃ p, RV v p) ∧ st3 [p0, p1, .o (bgD b), p3, p4, p5, p6, p7, p8, p9, p10, p11, p12, p13, p14, p15, p16, p17, p18, .e] =
      .nx [p0, p1, .o (bgD b'), .v v1, .v v2, .v v3, .v v4, p7, p8, p9, p10, p11, p12, p13, p14, p15, p16, p17, p18, .e] := by
  obtain ⟨v1, b1, e1, r1⟩ := value_ev b
  obtain ⟨v2, b2, e2, r2⟩ := value_ev b1
  obtain ⟨v3, b3, e3, r3⟩ := value_ev b2
  obtain ⟨v4, b4, e4, r4⟩ := value_ev b3
  have rg : gRng1 [.int 4] = some [.int 0, .int 1, .int 2, .int 3] := by kernel_rfl
  refine ⟨v1, v2, v3, v4, b4, ?_, ?_⟩
  · intro v hv
    simp only [List.mem_cons, List.not_mem_nil, or_false] at hv
    rcases hv with rfl | rfl | rfl | rfl <;> assumption
  · have s0 : 0 < sizeLine := by decide
    have s1 : 1 < sizeLine := by decide
    have s2 : 2 < sizeLine := by decide
    have s3 : 3 < sizeLine := by decide
    unfold st3
    simp (config := { dsimp := false }) only [evset, if_true, if_false, reduceIte, Int.reduceLT, Int.reduceLE, Int.reduceNeg, Int.reduceAdd, Int.reduceSub, Int.reduceMul, Int.reduceToNat, Int.reduceEq, Int.reduceNe, Nat.reduceAdd, Nat.reduceSub, Nat.reduceLT, Nat.reduceLeDiff, Nat.reduceEqDiff, Nat.reduceBEq, Nat.reduceBNe, rg, gNk_f h3, gNk_f h4, gNk_f h5, gNk_f h6, lcL_cons, s1, s2, s3, s0, k__law_value, e1, e2, e3, e4, gLp_t, List.cons_append]
noncomputable def st4 : MS := (sPar3 7 8 9 (mCons (mV (mMkG "NotABase" ["owner", "key", "path"] (mCons (mV (mL 3)) (mCons (mV (mL 4)) (mCons (mV (mL 5)) mNil))))) (mCons (mV (mMkG "Gap" ["name", "owner", "key", "path"] (mCons (mV (mL 3)) (mCons (mV (mL 4)) (mCons (mV (mL 5)) (mCons (mV (mL 6)) mNil)))))) (mCons (mV (mMkG "NotLawful" ["owner", "key", "path"] (mCons (mV (mL 4)) (mCons (mV (mL 5)) (mCons (mV (mL 3)) mNil))))) mNil))))
noncomputable def st5 : MS := (sSet 10 (mLst (mCons (mV (mMkG "BadText" ["at"] (mCons (mV (mL 3)) mNil))) (mCons (mV (mMkG "TooMany" ["what"] (mCons (mV (mL 4)) mNil))) (mCons (mV (mMkG "Twice" ["name"] (mCons (mV (mL 5)) mNil))) (mCons (mV (mMkG "NoClass" ["name"] (mCons (mV (mL 6)) mNil))) (mCons (mV (mMkG "NoOrder" ["name"] (mCons (mV (mL 3)) mNil))) (mCons (mV (mL 7)) (mCons (mV (mMkG "Final" ["name", "key"] (mCons (mV (mL 5)) (mCons (mV (mL 6)) mNil)))) (mCons (mV (mMkG "NotChained" ["name", "key"] (mCons (mV (mL 4)) (mCons (mV (mL 3)) mNil)))) (mCons (mV (mL 9)) mNil)))))))))))
noncomputable def st6 : MS := (sSet 10 (m2 gCatL (mV (mL 10)) (mV (mLst (mCons (mV (mMkG "BadKey" ["key"] (mCons (mV (mL 4)) mNil))) (mCons (mV (mMkG "BadName" ["name"] (mCons (mV (mL 5)) mNil))) (mCons (mV (mMkG "BadOrder" ["value"] (mCons (mV (mL 6)) mNil))) (mCons (mV (mMkG "BadDeed" ["at"] (mCons (mV (mL 3)) mNil))) (mCons (mV (mMkG "BadLimit" ["value"] (mCons (mV (mL 4)) mNil))) (mCons (mV (mMkG "Far" ["steps"] (mCons (mV (mL 5)) mNil))) (mCons (mV (mL 8)) (mCons (mV (mMkG "Long" ["most"] (mCons (mV (mL 6)) mNil))) mNil))))))))))))
noncomputable def st7 : MS := (sSet 10 (m2 gCatL (mV (mL 10)) (mV (mLst (mCons (mV (mC (.exn "NoObject" []))) (mCons (mV (mMkG "NoEnd" ["end"] (mCons (mV (mL 3)) mNil))) mNil))))))
noncomputable def st9 : MS := (sSet 16 (mLst (mCons (mV (m1 (gFdG tb_at "at") (mV (m2 gIxL (mV (mL 10)) (mV (mC (.int 0))))))) (mCons (mV (m1 (gFdG tb_what "what") (mV (m2 gIxL (mV (mL 10)) (mV (mC (.int 1))))))) (mCons (mV (m1 (gFdG tb_name "name") (mV (m2 gIxL (mV (mL 10)) (mV (mC (.int 2))))))) (mCons (mV (m1 (gFdG tb_name "name") (mV (m2 gIxL (mV (mL 10)) (mV (mC (.int 3))))))) (mCons (mV (m1 (gFdG tb_name "name") (mV (m2 gIxL (mV (mL 10)) (mV (mC (.int 4))))))) (mCons (mV (m1 (gFdG tb_key "key") (mV (m2 gIxL (mV (mL 10)) (mV (mC (.int 9))))))) (mCons (mV (m1 (gFdG tb_name "name") (mV (m2 gIxL (mV (mL 10)) (mV (mC (.int 10))))))) mNil)))))))))
noncomputable def st10 : MS := (sSet 16 (m2 gCatL (mV (mL 16)) (mV (mLst (mCons (mV (m1 (gFdG tb_value "value") (mV (m2 gIxL (mV (mL 10)) (mV (mC (.int 11))))))) (mCons (mV (m1 (gFdG tb_at "at") (mV (m2 gIxL (mV (mL 10)) (mV (mC (.int 12))))))) (mCons (mV (m1 (gFdG tb_value "value") (mV (m2 gIxL (mV (mL 10)) (mV (mC (.int 13))))))) (mCons (mV (m1 (gFdG tb_steps "steps") (mV (m2 gIxL (mV (mL 10)) (mV (mC (.int 14))))))) (mCons (mV (m1 (gFdG tb_most "most") (mV (m2 gIxL (mV (mL 10)) (mV (mC (.int 16))))))) (mCons (mV (m1 (gFdG tb_end "end") (mV (m2 gIxL (mV (mL 10)) (mV (mC (.int 18))))))) mNil))))))))))
noncomputable def st11 : MS := (sIf (tB' (m2 (gEqS true) (mV (mA gRepr (mCons (mV (mL 16)) mNil))) (mV (mA gRepr (mCons (mV (mLst (mCons (mV (mL 3)) (mCons (mV (mL 4)) (mCons (mV (mL 5)) (mCons (mV (mL 6)) (mCons (mV (mL 3)) (mCons (mV (mL 4)) (mCons (mV (mL 5)) (mCons (mV (mL 6)) (mCons (mV (mL 3)) (mCons (mV (mL 4)) (mCons (mV (mL 5)) (mCons (mV (mL 6)) (mCons (mV (mL 3)) mNil))))))))))))))) mNil)))))
    (sRet (mC (.bl false)))
    sNx)
noncomputable def st12 : MS := (sSet 17 (mLst (mCons (mV (m1 (gFdG tb_name "name") (mV (m2 gIxL (mV (mL 10)) (mV (mC (.int 6))))))) (mCons (mV (m1 (gFdG tb_key "key") (mV (m2 gIxL (mV (mL 10)) (mV (mC (.int 6))))))) (mCons (mV (m1 (gFdG tb_name "name") (mV (m2 gIxL (mV (mL 10)) (mV (mC (.int 7))))))) (mCons (mV (m1 (gFdG tb_key "key") (mV (m2 gIxL (mV (mL 10)) (mV (mC (.int 7))))))) (mCons (mV (m1 (gFdG tb_owner "owner") (mV (mL 7)))) (mCons (mV (m1 (gFdG tb_key "key") (mV (mL 7)))) (mCons (mV (m1 (gFdG tb_path "path") (mV (mL 7)))) mNil)))))))))
noncomputable def st13 : MS := (sSet 18 (mLst (mCons (mV (m1 (gFdG tb_owner "owner") (mV (mL 9)))) (mCons (mV (m1 (gFdG tb_key "key") (mV (mL 9)))) (mCons (mV (m1 (gFdG tb_path "path") (mV (mL 9)))) (mCons (mV (m1 (gFdG tb_name "name") (mV (mL 8)))) (mCons (mV (m1 (gFdG tb_owner "owner") (mV (mL 8)))) (mCons (mV (m1 (gFdG tb_key "key") (mV (mL 8)))) (mCons (mV (m1 (gFdG tb_path "path") (mV (mL 8)))) mNil)))))))))
noncomputable def st14 : MS := (sIf (tB' (m2 (gEqS true) (mV (mA gRepr (mCons (mV (m2 gCatL (mV (mL 17)) (mV (mL 18)))) mNil))) (mV (mA gRepr (mCons (mV (mLst (mCons (mV (mL 5)) (mCons (mV (mL 6)) (mCons (mV (mL 4)) (mCons (mV (mL 3)) (mCons (mV (mL 3)) (mCons (mV (mL 4)) (mCons (mV (mL 5)) (mCons (mV (mL 4)) (mCons (mV (mL 5)) (mCons (mV (mL 3)) (mCons (mV (mL 3)) (mCons (mV (mL 4)) (mCons (mV (mL 5)) (mCons (mV (mL 6)) mNil)))))))))))))))) mNil)))))
    (sRet (mC (.bl false)))
    sNx)
noncomputable def st15 : MS := (sIf (tNot' (tB' (mCall k__law_raised m__law_raised (mCons (mV (mCall k__law_draw m__law_draw (mCons (mS 2) (mCons (mV (mC (.int 16))) mNil)))) (mCons (mV (mL 3)) (mCons (mV (mL 4)) (mCons (mV (mL 5)) (mCons (mV (mL 6)) mNil))))))))
    (sRet (mC (.bl false)))
    sNx)
def made (a b c d : D) : List D := [.exn "BadText" [("at", a)], .exn "TooMany" [("what", b)], .exn "Twice" [("name", c)], .exn "NoClass" [("name", d)], .exn "NoOrder" [("name", a)], .exn "NotABase" [("path", c), ("key", b), ("owner", a)], .exn "Final" [("key", d), ("name", c)], .exn "NotChained" [("key", a), ("name", b)], .exn "NotLawful" [("path", a), ("key", c), ("owner", b)], .exn "BadKey" [("key", b)], .exn "BadName" [("name", c)], .exn "BadOrder" [("value", d)], .exn "BadDeed" [("at", a)], .exn "BadLimit" [("value", b)], .exn "Far" [("steps", c)], .exn "Gap" [("path", d), ("key", c), ("owner", b), ("name", a)], .exn "Long" [("most", d)], .exn "NoObject" [], .exn "NoEnd" [("end", a)]]
def made1 (a b c d : D) : List D := [.exn "BadText" [("at", a)], .exn "TooMany" [("what", b)], .exn "Twice" [("name", c)], .exn "NoClass" [("name", d)], .exn "NoOrder" [("name", a)], .exn "NotABase" [("path", c), ("key", b), ("owner", a)], .exn "Final" [("key", d), ("name", c)], .exn "NotChained" [("key", a), ("name", b)], .exn "NotLawful" [("path", a), ("key", c), ("owner", b)]]
def made2 (a b c d : D) : List D := [.exn "BadText" [("at", a)], .exn "TooMany" [("what", b)], .exn "Twice" [("name", c)], .exn "NoClass" [("name", d)], .exn "NoOrder" [("name", a)], .exn "NotABase" [("path", c), ("key", b), ("owner", a)], .exn "Final" [("key", d), ("name", c)], .exn "NotChained" [("key", a), ("name", b)], .exn "NotLawful" [("path", a), ("key", c), ("owner", b)], .exn "BadKey" [("key", b)], .exn "BadName" [("name", c)], .exn "BadOrder" [("value", d)], .exn "BadDeed" [("at", a)], .exn "BadLimit" [("value", b)], .exn "Far" [("steps", c)], .exn "Gap" [("path", d), ("key", c), ("owner", b), ("name", a)], .exn "Long" [("most", d)]]
def eB (a b c d : D) : D := .exn "NotABase" [("path", c), ("key", b), ("owner", a)]
def eG (a b c d : D) : D := .exn "Gap" [("path", d), ("key", c), ("owner", b), ("name", a)]
def eL (a b c d : D) : D := .exn "NotLawful" [("path", a), ("key", c), ("owner", b)]
section
variable {a b c d : D} {p0 p1 p2 p7 p8 p9 p10 p11 p12 p13 p14 p15 p16 p17 p18 p19 : Sl}
theorem st4_ev (h7 : isI p7 = false) (h8 : isI p8 = false) (h9 : isI p9 = false) : st4 [p0, p1, p2, .v a, .v b, .v c, .v d, p7, p8, p9, p10, p11, p12, p13, p14, p15, p16, p17, p18, p19] = .nx [p0, p1, p2, .v a, .v b, .v c, .v d, .v (eB a b c d), .v (eG a b c d), .v (eL a b c d), p10, p11, p12, p13, p14, p15, p16, p17, p18, p19] := by
  cases p7 <;> cases p8 <;> cases p9 <;> first | (cases h7; done) | (cases h8; done) | (cases h9; done) | kernel_rfl
theorem st5_ev (h10 : isI p10 = false) : st5 [p0, p1, p2, .v a, .v b, .v c, .v d, .v (eB a b c d), .v (eG a b c d), .v (eL a b c d), p10, p11, p12, p13, p14, p15, p16, p17, p18, p19] = .nx [p0, p1, p2, .v a, .v b, .v c, .v d, .v (eB a b c d), .v (eG a b c d), .v (eL a b c d), .v (.lst (made1 a b c d)), p11, p12, p13, p14, p15, p16, p17, p18, p19] := by
  cases p10 <;> first | (cases h10; done) | kernel_rfl
theorem st6_ev : st6 [p0, p1, p2, .v a, .v b, .v c, .v d, .v (eB a b c d), .v (eG a b c d), .v (eL a b c d), .v (.lst (made1 a b c d)), p11, p12, p13, p14, p15, p16, p17, p18, p19] = .nx [p0, p1, p2, .v a, .v b, .v c, .v d, .v (eB a b c d), .v (eG a b c d), .v (eL a b c d), .v (.lst (made2 a b c d)), p11, p12, p13, p14, p15, p16, p17, p18, p19] := by kernel_rfl
theorem st7_ev : st7 [p0, p1, p2, .v a, .v b, .v c, .v d, .v (eB a b c d), .v (eG a b c d), .v (eL a b c d), .v (.lst (made2 a b c d)), p11, p12, p13, p14, p15, p16, p17, p18, p19] = .nx [p0, p1, p2, .v a, .v b, .v c, .v d, .v (eB a b c d), .v (eG a b c d), .v (eL a b c d), .v (.lst (made a b c d)), p11, p12, p13, p14, p15, p16, p17, p18, p19] := by kernel_rfl
theorem st9_ev (h16 : isI p16 = false) : st9 [p0, p1, p2, .v a, .v b, .v c, .v d, .v (eB a b c d), .v (eG a b c d), .v (eL a b c d), .v (.lst (made a b c d)), p11, p12, p13, p14, p15, p16, p17, p18, p19] = .nx [p0, p1, p2, .v a, .v b, .v c, .v d, .v (eB a b c d), .v (eG a b c d), .v (eL a b c d), .v (.lst (made a b c d)), p11, p12, p13, p14, p15, .v (.lst [a, b, c, d, a, b, c]), p17, p18, p19] := by
  cases p16 <;> first | (cases h16; done) | kernel_rfl
theorem st10_ev : st10 [p0, p1, p2, .v a, .v b, .v c, .v d, .v (eB a b c d), .v (eG a b c d), .v (eL a b c d), .v (.lst (made a b c d)), p11, p12, p13, p14, p15, .v (.lst [a, b, c, d, a, b, c]), p17, p18, p19] = .nx [p0, p1, p2, .v a, .v b, .v c, .v d, .v (eB a b c d), .v (eG a b c d), .v (eL a b c d), .v (.lst (made a b c d)), p11, p12, p13, p14, p15, .v (.lst [a, b, c, d, a, b, c, d, a, b, c, d, a]), p17, p18, p19] := by kernel_rfl
theorem st12_ev (h17 : isI p17 = false) : st12 [p0, p1, p2, .v a, .v b, .v c, .v d, .v (eB a b c d), .v (eG a b c d), .v (eL a b c d), .v (.lst (made a b c d)), p11, p12, p13, p14, p15, p16, p17, p18, p19] = .nx [p0, p1, p2, .v a, .v b, .v c, .v d, .v (eB a b c d), .v (eG a b c d), .v (eL a b c d), .v (.lst (made a b c d)), p11, p12, p13, p14, p15, p16, .v (.lst [c, d, b, a, a, b, c]), p18, p19] := by
  cases p17 <;> first | (cases h17; done) | kernel_rfl
theorem st13_ev (h18 : isI p18 = false) : st13 [p0, p1, p2, .v a, .v b, .v c, .v d, .v (eB a b c d), .v (eG a b c d), .v (eL a b c d), .v (.lst (made a b c d)), p11, p12, p13, p14, p15, p16, p17, p18, p19] = .nx [p0, p1, p2, .v a, .v b, .v c, .v d, .v (eB a b c d), .v (eG a b c d), .v (eL a b c d), .v (.lst (made a b c d)), p11, p12, p13, p14, p15, p16, p17, .v (.lst [b, c, a, a, b, c, d]), p19] := by
  cases p18 <;> first | (cases h18; done) | kernel_rfl
end

section
variable {a b c d : D} {p0 p1 p2 p7 p8 p9 p10 p11 p12 p13 p14 p15 p16 p17 p18 p19 : Sl}
theorem st11_ev (ra : ∃ p, RV a p) (rb : ∃ p, RV b p) (rc : ∃ p, RV c p) (rd : ∃ p, RV d p) : st11 [p0, p1, p2, .v a, .v b, .v c, .v d, .v (eB a b c d), .v (eG a b c d), .v (eL a b c d), .v (.lst (made a b c d)), p11, p12, p13, p14, p15, .v (.lst [a, b, c, d, a, b, c, d, a, b, c, d, a]), p17, p18, p19] = .nx [p0, p1, p2, .v a, .v b, .v c, .v d, .v (eB a b c d), .v (eG a b c d), .v (eL a b c d), .v (.lst (made a b c d)), p11, p12, p13, p14, p15, .v (.lst [a, b, c, d, a, b, c, d, a, b, c, d, a]), p17, p18, p19] := by
  obtain ⟨z, hz⟩ := repr_lst (ds := [a, b, c, d, a, b, c, d, a, b, c, d, a]) (by
    simp only [List.forall_mem_cons, List.not_mem_nil, false_imp_iff, implies_true, and_true]
    exact ⟨ra, rb, rc, rd, ra, rb, rc, rd, ra, rb, rc, rd, ra⟩) (Nat.le_of_ble_eq_true rfl)
  have s13 : 13 ≤ sizeLine := by decide
  unfold st11
  simp (config := { dsimp := false }) only [evset, if_true, if_false, reduceIte, Int.reduceLT, Int.reduceLE, Int.reduceNeg, Int.reduceAdd, Int.reduceSub, Int.reduceMul, Int.reduceToNat, Int.reduceEq, Int.reduceNe, Nat.reduceAdd, Nat.reduceSub, Nat.reduceLT, Nat.reduceLeDiff, Nat.reduceEqDiff, Nat.reduceBEq, Nat.reduceBNe, hz, s13]
theorem st14_ev (ra : ∃ p, RV a p) (rb : ∃ p, RV b p) (rc : ∃ p, RV c p) (rd : ∃ p, RV d p) : st14 [p0, p1, p2, .v a, .v b, .v c, .v d, .v (eB a b c d), .v (eG a b c d), .v (eL a b c d), .v (.lst (made a b c d)), p11, p12, p13, p14, p15, p16, .v (.lst [c, d, b, a, a, b, c]), .v (.lst [b, c, a, a, b, c, d]), p19] = .nx [p0, p1, p2, .v a, .v b, .v c, .v d, .v (eB a b c d), .v (eG a b c d), .v (eL a b c d), .v (.lst (made a b c d)), p11, p12, p13, p14, p15, p16, .v (.lst [c, d, b, a, a, b, c]), .v (.lst [b, c, a, a, b, c, d]), p19] := by
  obtain ⟨z, hz⟩ := repr_lst (ds := [c, d, b, a, a, b, c, b, c, a, a, b, c, d]) (by
    simp only [List.forall_mem_cons, List.not_mem_nil, false_imp_iff, implies_true, and_true]
    exact ⟨rc, rd, rb, ra, ra, rb, rc, rb, rc, ra, ra, rb, rc, rd⟩) (Nat.le_of_ble_eq_true rfl)
  have s14 : 14 ≤ sizeLine := by decide
  have cl : gCatL (.lst [c, d, b, a, a, b, c]) (.lst [b, c, a, a, b, c, d]) = some (.lst [c, d, b, a, a, b, c, b, c, a, a, b, c, d]) := by kernel_rfl
  unfold st14
  simp (config := { dsimp := false }) only [evset, if_true, if_false, reduceIte, Int.reduceLT, Int.reduceLE, Int.reduceNeg, Int.reduceAdd, Int.reduceSub, Int.reduceMul, Int.reduceToNat, Int.reduceEq, Int.reduceNe, Nat.reduceAdd, Nat.reduceSub, Nat.reduceLT, Nat.reduceLeDiff, Nat.reduceEqDiff, Nat.reduceBEq, Nat.reduceBNe, hz, s14, cl]
end
theorem isS {z : List Nat} {l : List D} (h : gRepr l = some (.str z)) : (gRepr l).isSome = true := by rw [h]; rfl
theorem raised_ev {n : Int} {a b c d : D} (ra : ∃ p, RV a p) (rb : ∃ p, RV b p) (rc : ∃ p, RV c p) (rd : ∃ p, RV d p) : m__law_raised [.int n, a, b, c, d] = .ok (.bl true, [.int n, a, b, c, d]) := by
  unfold m__law_raised k__law_raised b__law_raised
  obtain ⟨z2, h2⟩ := repr_tup (ds := [a, b]) (by
    simp only [List.forall_mem_cons, List.not_mem_nil, false_imp_iff, implies_true, and_true]
    exact ⟨ra, rb⟩) (Nat.le_of_ble_eq_true rfl)
  obtain ⟨z4, h4⟩ := repr_tup (ds := [a, b, c, d]) (by
    simp only [List.forall_mem_cons, List.not_mem_nil, false_imp_iff, implies_true, and_true]
    exact ⟨ra, rb, rc, rd⟩) (Nat.le_of_ble_eq_true rfl)
  obtain ⟨p, hp⟩ := ra
  obtain ⟨z1, h1⟩ := repr_one hp
  have key : ∀ {mb : MS} {cn : Str} {fs : List (Str × D)}, mb [.v (.int n), .v a, .v b, .v c, .v d, .e, .e] = .er cn fs → mhR cn fs [.v (.int n), .v a, .v b, .v c, .v d, .e, .e] = .rt false (.bl true) [.v (.int n), .v a, .v b, .v c, .v d, .e, .e] →
      runM false [.v, .v, .v, .v, .v] 2 (sTryS mb mh__law_raised) [.int n, a, b, c, d] = .ok (.bl true, [.int n, a, b, c, d]) := by
    intro mb cn fs e1 e2
    have e3 : sTryS mb mh__law_raised [.v (.int n), .v a, .v b, .v c, .v d, .e, .e] = .rt false (.bl true) [.v (.int n), .v a, .v b, .v c, .v d, .e, .e] := by
      unfold sTryS
      rw [if_pos (by rfl), e1]
      exact e2
    simp (config := { dsimp := false }) only [evset, if_true, if_false, reduceIte, Int.reduceLT, Int.reduceLE, Int.reduceNeg, Int.reduceAdd, Int.reduceSub, Int.reduceMul, Int.reduceToNat, Int.reduceEq, Int.reduceNe, Nat.reduceAdd, Nat.reduceSub, Nat.reduceLT, Nat.reduceLeDiff, Nat.reduceEqDiff, Nat.reduceBEq, Nat.reduceBNe, e3]
  by_cases c4 : n < 4
  · refine key (cn := "Final") (fs := [("key", b), ("name", a)]) (by simp (config := { dsimp := false }) only [evset, if_true, if_false, reduceIte, Int.reduceLT, Int.reduceLE, Int.reduceNeg, Int.reduceAdd, Int.reduceSub, Int.reduceMul, Int.reduceToNat, Int.reduceEq, Int.reduceNe, Nat.reduceAdd, Nat.reduceSub, Nat.reduceLT, Nat.reduceLeDiff, Nat.reduceEqDiff, Nat.reduceBEq, Nat.reduceBNe, c4]) ?_
    unfold mhR
    exact if_pos (.inl ⟨rfl, c4, rfl, rfl, isS h2⟩)
  · by_cases c8 : n < 8
    · refine key (cn := "NotChained") (fs := [("key", b), ("name", a)]) (by simp (config := { dsimp := false }) only [evset, if_true, if_false, reduceIte, Int.reduceLT, Int.reduceLE, Int.reduceNeg, Int.reduceAdd, Int.reduceSub, Int.reduceMul, Int.reduceToNat, Int.reduceEq, Int.reduceNe, Nat.reduceAdd, Nat.reduceSub, Nat.reduceLT, Nat.reduceLeDiff, Nat.reduceEqDiff, Nat.reduceBEq, Nat.reduceBNe, c4, c8]) ?_
      unfold mhR
      exact if_pos (.inr (.inl ⟨rfl, by omega, c8, rfl, rfl, isS h2⟩))
    · by_cases c12 : n < 12
      · refine key (cn := "Gap") (fs := [("path", d), ("key", c), ("owner", b), ("name", a)]) (by simp (config := { dsimp := false }) only [evset, if_true, if_false, reduceIte, Int.reduceLT, Int.reduceLE, Int.reduceNeg, Int.reduceAdd, Int.reduceSub, Int.reduceMul, Int.reduceToNat, Int.reduceEq, Int.reduceNe, Nat.reduceAdd, Nat.reduceSub, Nat.reduceLT, Nat.reduceLeDiff, Nat.reduceEqDiff, Nat.reduceBEq, Nat.reduceBNe, c4, c8, c12, List.cons_append]) ?_
        unfold mhR
        exact if_pos (.inr (.inr (.inl ⟨rfl, by omega, c12, rfl, rfl, rfl, rfl, isS h4⟩)))
      · refine key (cn := "NoEnd") (fs := [("end", a)]) (by simp (config := { dsimp := false }) only [evset, if_true, if_false, reduceIte, Int.reduceLT, Int.reduceLE, Int.reduceNeg, Int.reduceAdd, Int.reduceSub, Int.reduceMul, Int.reduceToNat, Int.reduceEq, Int.reduceNe, Nat.reduceAdd, Nat.reduceSub, Nat.reduceLT, Nat.reduceLeDiff, Nat.reduceEqDiff, Nat.reduceBEq, Nat.reduceBNe, c4, c8, c12]) ?_
        unfold mhR
        exact if_pos (.inr (.inr (.inr ⟨rfl, by omega, rfl, isS h1⟩)))

noncomputable def st8 : MS := sFor (mItA gEnumL (mCons (mV (mL 10)) mNil)) (gTp 2 (gCo (gNm 11) (gCo (gNm 12) gNo))) loopB
theorem st8_ev {a b c d : D} {p0 p1 p2 p11 p12 p13 p14 p15 p16 p17 p18 p19 : Sl} (h11 : isI p11 = false) (h12 : isI p12 = false) (h13 : isI p13 = false) (h14 : isI p14 = false) (h15 : isI p15 = false) :
    ∃ q11 q12 q13 q14 q15, (isI q11 = false ∧ isI q12 = false ∧ isI q13 = false ∧ isI q14 = false ∧ isI q15 = false) ∧ st8 [p0, p1, p2, .v a, .v b, .v c, .v d, .v (eB a b c d), .v (eG a b c d), .v (eL a b c d), .v (.lst (made a b c d)), p11, p12, p13, p14, p15, p16, p17, p18, p19] = .nx [p0, p1, p2, .v a, .v b, .v c, .v d, .v (eB a b c d), .v (eG a b c d), .v (eL a b c d), .v (.lst (made a b c d)), q11, q12, q13, q14, q15, p16, p17, p18, p19] := by
  have en : gEnumL [.lst (made a b c d)] = some (enumD (made a b c d)) := rfl
  unfold st8
  simp (config := { dsimp := false }) only [evset, if_true, if_false, reduceIte, Int.reduceLT, Int.reduceLE, Int.reduceNeg, Int.reduceAdd, Int.reduceSub, Int.reduceMul, Int.reduceToNat, Int.reduceEq, Int.reduceNe, Nat.reduceAdd, Nat.reduceSub, Nat.reduceLT, Nat.reduceLeDiff, Nat.reduceEqDiff, Nat.reduceBEq, Nat.reduceBNe, en]
  refine for_ind (fun ds ρ => ∃ q11 q12 q13 q14 q15, (isI q11 = false ∧ isI q12 = false ∧ isI q13 = false ∧ isI q14 = false ∧ isI q15 = false) ∧ (∀ e ∈ ds, ∃ (k : Int) (cn : Str) (fs : List (Str × D)), e = .tup [.int k, .exn cn fs] ∧ Kn1 k cn) ∧ ρ = [p0, p1, p2, .v a, .v b, .v c, .v d, .v (eB a b c d), .v (eG a b c d), .v (eL a b c d), .v (.lst (made a b c d)), q11, q12, q13, q14, q15, p16, p17, p18, p19])
    (fun o => ∃ q11 q12 q13 q14 q15, (isI q11 = false ∧ isI q12 = false ∧ isI q13 = false ∧ isI q14 = false ∧ isI q15 = false) ∧ o = .nx [p0, p1, p2, .v a, .v b, .v c, .v d, .v (eB a b c d), .v (eG a b c d), .v (eL a b c d), .v (.lst (made a b c d)), q11, q12, q13, q14, q15, p16, p17, p18, p19]) ?_ ?_ _ _ ⟨p11, p12, p13, p14, p15, ⟨h11, h12, h13, h14, h15⟩, ?_, rfl⟩
  · rintro ρ ⟨q11, q12, q13, q14, q15, hq, _, rfl⟩
    exact ⟨q11, q12, q13, q14, q15, hq, rfl⟩
  · rintro e ds ρ w ⟨q11, q12, q13, q14, q15, ⟨h1, h2, h3, h4, h5⟩, he, rfl⟩ ih
    obtain ⟨k, cn, fs, rfl, kn⟩ := he e (.head _)
    obtain ⟨r13, r14, r15, ⟨g3, g4, g5⟩, eq⟩ := loopB_ev (p0 := p0) (p1 := p1) (p2 := p2) (p3 := .v a) (p4 := .v b) (p5 := .v c) (p6 := .v d) (p7 := .v (eB a b c d)) (p8 := .v (eG a b c d)) (p9 := .v (eL a b c d)) (p10 := .v (.lst (made a b c d))) (p16 := p16) (p17 := p17) (p18 := p18) (p19 := p19) (fs := fs) h3 h4 h5 kn
    simp (config := { dsimp := false }) only [evset, if_true, if_false, reduceIte, Int.reduceLT, Int.reduceLE, Int.reduceNeg, Int.reduceAdd, Int.reduceSub, Int.reduceMul, Int.reduceToNat, Int.reduceEq, Int.reduceNe, Nat.reduceAdd, Nat.reduceSub, Nat.reduceLT, Nat.reduceLeDiff, Nat.reduceEqDiff, Nat.reduceBEq, Nat.reduceBNe, gNk_f h1, gNk_f h2, eq]
    exact ih _ ⟨_, _, _, _, _, ⟨rfl, rfl, g3, g4, g5⟩, fun x hx => he x (.tail _ hx), rfl⟩
  · have el : enumD (made a b c d) = [.tup [.int 0, .exn "BadText" [("at", a)]], .tup [.int 1, .exn "TooMany" [("what", b)]], .tup [.int 2, .exn "Twice" [("name", c)]], .tup [.int 3, .exn "NoClass" [("name", d)]], .tup [.int 4, .exn "NoOrder" [("name", a)]], .tup [.int 5, .exn "NotABase" [("path", c), ("key", b), ("owner", a)]], .tup [.int 6, .exn "Final" [("key", d), ("name", c)]], .tup [.int 7, .exn "NotChained" [("key", a), ("name", b)]], .tup [.int 8, .exn "NotLawful" [("path", a), ("key", c), ("owner", b)]], .tup [.int 9, .exn "BadKey" [("key", b)]], .tup [.int 10, .exn "BadName" [("name", c)]], .tup [.int 11, .exn "BadOrder" [("value", d)]], .tup [.int 12, .exn "BadDeed" [("at", a)]], .tup [.int 13, .exn "BadLimit" [("value", b)]], .tup [.int 14, .exn "Far" [("steps", c)]], .tup [.int 15, .exn "Gap" [("path", d), ("key", c), ("owner", b), ("name", a)]], .tup [.int 16, .exn "Long" [("most", d)]], .tup [.int 17, .exn "NoObject" []], .tup [.int 18, .exn "NoEnd" [("end", a)]]] := by kernel_rfl
    intro e he
    rw [el] at he
    simp only [List.mem_cons, List.not_mem_nil, or_false] at he
    rcases he with rfl | rfl | rfl | rfl | rfl | rfl | rfl | rfl | rfl | rfl | rfl | rfl | rfl | rfl | rfl | rfl | rfl | rfl | rfl
    · exact ⟨_, _, _, rfl, kn_0⟩
    · exact ⟨_, _, _, rfl, kn_1⟩
    · exact ⟨_, _, _, rfl, kn_2⟩
    · exact ⟨_, _, _, rfl, kn_3⟩
    · exact ⟨_, _, _, rfl, kn_4⟩
    · exact ⟨_, _, _, rfl, kn_5⟩
    · exact ⟨_, _, _, rfl, kn_6⟩
    · exact ⟨_, _, _, rfl, kn_7⟩
    · exact ⟨_, _, _, rfl, kn_8⟩
    · exact ⟨_, _, _, rfl, kn_9⟩
    · exact ⟨_, _, _, rfl, kn_10⟩
    · exact ⟨_, _, _, rfl, kn_11⟩
    · exact ⟨_, _, _, rfl, kn_12⟩
    · exact ⟨_, _, _, rfl, kn_13⟩
    · exact ⟨_, _, _, rfl, kn_14⟩
    · exact ⟨_, _, _, rfl, kn_15⟩
    · exact ⟨_, _, _, rfl, kn_16⟩
    · exact ⟨_, _, _, rfl, kn_17⟩
    · exact ⟨_, _, _, rfl, kn_18⟩
theorem st15_ev {g : Bg} {a b c d : D} {p0 p1 p11 p12 p13 p14 p15 p16 p17 p18 p19 : Sl} (ra : ∃ p, RV a p) (rb : ∃ p, RV b p) (rc : ∃ p, RV c p) (rd : ∃ p, RV d p) :
    st15 [p0, p1, .o (bgD g), .v a, .v b, .v c, .v d, .v (eB a b c d), .v (eG a b c d), .v (eL a b c d), .v (.lst (made a b c d)), p11, p12, p13, p14, p15, p16, p17, p18, p19] = .nx [p0, p1, .o (bgD (nxt g 16)), .v a, .v b, .v c, .v d, .v (eB a b c d), .v (eG a b c d), .v (eL a b c d), .v (.lst (made a b c d)), p11, p12, p13, p14, p15, p16, p17, p18, p19] := by
  have dr := draw_eq (b := g) (m := 16) (by decide) (Wd.of (by decide) (by decide))
  have re := raised_ev (n := dig g 16) ra rb rc rd
  unfold st15
  simp (config := { dsimp := false }) only [evset, if_true, if_false, reduceIte, Int.reduceLT, Int.reduceLE, Int.reduceNeg, Int.reduceAdd, Int.reduceSub, Int.reduceMul, Int.reduceToNat, Int.reduceEq, Int.reduceNe, Nat.reduceAdd, Nat.reduceSub, Nat.reduceLT, Nat.reduceLeDiff, Nat.reduceEqDiff, Nat.reduceBEq, Nat.reduceBNe, k__law_draw, dr, k__law_raised, re]
noncomputable def bodyL : MS := (sSeq (sSetN 2 (mCall k__law_bag m__law_bag (mCons (mV (mL 0)) (mCons (mV (mL 1)) mNil)))) (sSeq st3 (sSeq st4 (sSeq st5 (sSeq st6 (sSeq st7 (sSeq st8 (sSeq st9 (sSeq st10 (sSeq st11 (sSeq st12 (sSeq st13 (sSeq st14 st15)))))))))))))
theorem law_parts : b_law = (sSeq (sFor (mItA gRng1 (mCons (mV (mA gMax (mCons (mV (mC (.int 1))) (mCons (mV (mA gMin (mCons (mV (mC (.int 6))) (mCons (mV (mA gLen (mCons (mV (mL 0)) mNil))) mNil)))) mNil)))) mNil)) (gNm 1) bodyL) (sRet (mC (.bl true)))) := rfl
theorem body_ev (ns : List Int) (i : Nat) {p2 p3 p4 p5 p6 p7 p8 p9 p10 p11 p12 p13 p14 p15 p16 p17 p18 : Sl} (h2 : isI p2 = false) (h3 : isI p3 = false) (h4 : isI p4 = false) (h5 : isI p5 = false) (h6 : isI p6 = false) (h7 : isI p7 = false) (h8 : isI p8 = false) (h9 : isI p9 = false) (h10 : isI p10 = false)
    (h11 : isI p11 = false) (h12 : isI p12 = false) (h13 : isI p13 = false) (h14 : isI p14 = false) (h15 : isI p15 = false) (h16 : isI p16 = false) (h17 : isI p17 = false) (h18 : isI p18 = false) :
    ∃ q2 q3 q4 q5 q6 q7 q8 q9 q10 q11 q12 q13 q14 q15 q16 q17 q18, (isI q2 = false ∧ isI q3 = false ∧ isI q4 = false ∧ isI q5 = false ∧ isI q6 = false ∧ isI q7 = false ∧ isI q8 = false ∧ isI q9 = false ∧ isI q10 = false) ∧ (isI q11 = false ∧ isI q12 = false ∧ isI q13 = false ∧ isI q14 = false ∧ isI q15 = false ∧ isI q16 = false ∧ isI q17 = false ∧ isI q18 = false) ∧
      bodyL [.v (.lsq (ns.map .int)), .v (.int i), p2, p3, p4, p5, p6, p7, p8, p9, p10, p11, p12, p13, p14, p15, p16, p17, p18, .e] = .nx [.v (.lsq (ns.map .int)), .v (.int i), q2, q3, q4, q5, q6, q7, q8, q9, q10, q11, q12, q13, q14, q15, q16, q17, q18, .e] := by
  obtain ⟨b, hb⟩ := bag_ev ns i
  obtain ⟨v1, v2, v3, v4, b2, hr, e3⟩ := st3_ev (b := b) (p0 := .v (.lsq (ns.map .int))) (p1 := .v (.int i)) (p7 := p7) (p8 := p8) (p9 := p9) (p10 := p10) (p11 := p11) (p12 := p12) (p13 := p13) (p14 := p14) (p15 := p15) (p16 := p16) (p17 := p17) (p18 := p18) h3 h4 h5 h6
  have r1 := hr v1 (by simp)
  have r2 := hr v2 (by simp)
  have r3 := hr v3 (by simp)
  have r4 := hr v4 (by simp)
  have s1 : sSetN 2 (mCall k__law_bag m__law_bag (mCons (mV (mL 0)) (mCons (mV (mL 1)) mNil))) [.v (.lsq (ns.map .int)), .v (.int i), p2, p3, p4, p5, p6, p7, p8, p9, p10, p11, p12, p13, p14, p15, p16, p17, p18, .e] =
      .nx [.v (.lsq (ns.map .int)), .v (.int i), .o (bgD b), p3, p4, p5, p6, p7, p8, p9, p10, p11, p12, p13, p14, p15, p16, p17, p18, .e] := by
    simp (config := { dsimp := false }) only [evset, if_true, if_false, reduceIte, Int.reduceLT, Int.reduceLE, Int.reduceNeg, Int.reduceAdd, Int.reduceSub, Int.reduceMul, Int.reduceToNat, Int.reduceEq, Int.reduceNe, Nat.reduceAdd, Nat.reduceSub, Nat.reduceLT, Nat.reduceLeDiff, Nat.reduceEqDiff, Nat.reduceBEq, Nat.reduceBNe, k__law_bag, hb, putSK_f h2]
  obtain ⟨q11, q12, q13, q14, q15, hq, e8⟩ := st8_ev (a := v1) (b := v2) (c := v3) (d := v4) (p0 := .v (.lsq (ns.map .int))) (p1 := .v (.int i)) (p2 := .o (bgD b2)) (p16 := p16) (p17 := p17) (p18 := p18) (p19 := .e) h11 h12 h13 h14 h15
  obtain ⟨g11, g12, g13, g14, g15⟩ := hq
  refine ⟨.o (bgD (nxt b2 16)), .v v1, .v v2, .v v3, .v v4, .v (eB v1 v2 v3 v4), .v (eG v1 v2 v3 v4), .v (eL v1 v2 v3 v4), .v (.lst (made v1 v2 v3 v4)), q11, q12, q13, q14, q15, .v (.lst [v1, v2, v3, v4, v1, v2, v3, v4, v1, v2, v3, v4, v1]), .v (.lst [v3, v4, v2, v1, v1, v2, v3]), .v (.lst [v2, v3, v1, v1, v2, v3, v4]),
    ⟨rfl, rfl, rfl, rfl, rfl, rfl, rfl, rfl, rfl⟩, ⟨g11, g12, g13, g14, g15, rfl, rfl, rfl⟩, ?_⟩
  unfold bodyL
  rw [sSeq_ap, s1, seq_nx, sSeq_ap, e3, seq_nx, sSeq_ap, st4_ev h7 h8 h9, seq_nx, sSeq_ap, st5_ev h10, seq_nx, sSeq_ap, st6_ev, seq_nx, sSeq_ap, st7_ev, seq_nx, sSeq_ap, e8, seq_nx, sSeq_ap, st9_ev h16, seq_nx, sSeq_ap, st10_ev, seq_nx, sSeq_ap, st11_ev r1 r2 r3 r4, seq_nx, sSeq_ap, st12_ev h17, seq_nx, sSeq_ap, st13_ev h18, seq_nx, sSeq_ap, st14_ev r1 r2 r3 r4, seq_nx, st15_ev r1 r2 r3 r4]
theorem gRng1_i {e : Int} : gRng1 [.int e] = if -(2 ^ 62) ≤ e ∧ e < 2 ^ 62 then some (rngD 0 e.toNat) else none := rfl
theorem rngD_nat {n : Nat} : ∀ d ∈ rngD 0 n, ∃ i : Nat, d = .int i := fun d hd => by
  unfold rngD at hd
  obtain ⟨k, _, rfl⟩ := List.mem_map.mp hd
  exact ⟨k, by rw [Int.zero_add]⟩
theorem law_ev (ns : List Int) (hl : ns.length ≤ 63) : m_law [.lsq (ns.map .int)] = .ok (.bl true, [.lsq (ns.map .int)]) := by
  unfold m_law k_law
  rw [law_parts]
  have rg : ∃ n, gRng1 [.int (if (if ((ns.map D.int).length : Int) < 6 then ((ns.map D.int).length : Int) else 6) > 1 then (if ((ns.map D.int).length : Int) < 6 then ((ns.map D.int).length : Int) else 6) else 1)] = some (rngD 0 n) := by
    rw [gRng1_i, if_pos]
    · exact ⟨_, rfl⟩
    · rw [List.length_map]
      split <;> split <;> omega
  obtain ⟨n, rg⟩ := rg
  simp (config := { dsimp := false }) only [evset, if_true, if_false, reduceIte, Int.reduceLT, Int.reduceLE, Int.reduceNeg, Int.reduceAdd, Int.reduceSub, Int.reduceMul, Int.reduceToNat, Int.reduceEq, Int.reduceNe, Nat.reduceAdd, Nat.reduceSub, Nat.reduceLT, Nat.reduceLeDiff, Nat.reduceEqDiff, Nat.reduceBEq, Nat.reduceBNe, rg]
  refine for_ind (fun ds ρ => ∃ a2 a3 a4 a5 a6 a7 a8 a9 a10 a11 a12 a13 a14 a15 a16 a17 a18 c1, (isI a2 = false ∧ isI a3 = false ∧ isI a4 = false ∧ isI a5 = false ∧ isI a6 = false ∧ isI a7 = false ∧ isI a8 = false ∧ isI a9 = false ∧ isI a10 = false) ∧ (isI a11 = false ∧ isI a12 = false ∧ isI a13 = false ∧ isI a14 = false ∧ isI a15 = false ∧ isI a16 = false ∧ isI a17 = false ∧ isI a18 = false) ∧ isI c1 = false ∧ (∀ d ∈ ds, ∃ i : Nat, d = .int i) ∧
      ρ = [.v (.lsq (ns.map .int)), c1, a2, a3, a4, a5, a6, a7, a8, a9, a10, a11, a12, a13, a14, a15, a16, a17, a18, .e]) (fun o => runK false [Kd.v] (Out.seq o _) = _) ?_ ?_ _ _ ⟨.e, .e, .e, .e, .e, .e, .e, .e, .e, .e, .e, .e, .e, .e, .e, .e, .e, .e, ⟨rfl, rfl, rfl, rfl, rfl, rfl, rfl, rfl, rfl⟩, ⟨rfl, rfl, rfl, rfl, rfl, rfl, rfl, rfl⟩, rfl, rngD_nat, rfl⟩
  · rintro ρ ⟨a2, a3, a4, a5, a6, a7, a8, a9, a10, a11, a12, a13, a14, a15, a16, a17, a18, c1, _, _, _, _, rfl⟩
    simp (config := { dsimp := false }) only [evset, if_true, if_false, reduceIte, Int.reduceLT, Int.reduceLE, Int.reduceNeg, Int.reduceAdd, Int.reduceSub, Int.reduceMul, Int.reduceToNat, Int.reduceEq, Int.reduceNe, Nat.reduceAdd, Nat.reduceSub, Nat.reduceLT, Nat.reduceLeDiff, Nat.reduceEqDiff, Nat.reduceBEq, Nat.reduceBNe]
  · rintro e ds ρ w ⟨a2, a3, a4, a5, a6, a7, a8, a9, a10, a11, a12, a13, a14, a15, a16, a17, a18, c1, ⟨h2, h3, h4, h5, h6, h7, h8, h9, h10⟩, ⟨h11, h12, h13, h14, h15, h16, h17, h18⟩, hc, hd, rfl⟩ ih
    obtain ⟨i, rfl⟩ := hd e (.head _)
    obtain ⟨q2, q3, q4, q5, q6, q7, q8, q9, q10, q11, q12, q13, q14, q15, q16, q17, q18, g1, g2, eq⟩ := body_ev ns i h2 h3 h4 h5 h6 h7 h8 h9 h10 h11 h12 h13 h14 h15 h16 h17 h18
    simp (config := { dsimp := false }) only [evset, if_true, if_false, reduceIte, Int.reduceLT, Int.reduceLE, Int.reduceNeg, Int.reduceAdd, Int.reduceSub, Int.reduceMul, Int.reduceToNat, Int.reduceEq, Int.reduceNe, Nat.reduceAdd, Nat.reduceSub, Nat.reduceLT, Nat.reduceLeDiff, Nat.reduceEqDiff, Nat.reduceBEq, Nat.reduceBNe, gNk_f hc, eq]
    exact ih _ ⟨_, _, _, _, _, _, _, _, _, _, _, _, _, _, _, _, _, .v (.int i), g1, g2, rfl, fun d hd' => hd d (.tail _ hd'), rfl⟩

def spLaw (K : PySem.W.Frag) : Sp := fun vs H Q _ => ∃ (a : Addr) (ns : List Int), vs = [.ref a] ∧ SqL K H a (ns.map V.int) ∧ ns.length ≤ 63 ∧ ∀ H', Q (.bl true) H'
theorem FnG.imp {P : Program} {w : World} {K : PySem.W.Frag} {mg : Str → Option Value} {base : Heap} {CX : CXT} {k : Nat} {f : Addr} {fd : FuncData} {ps : List Str} {sp sp' : Sp} (F : FnG P w K mg base CX k f fd ps sp) (h : ∀ vs H Q E, sp' vs H Q E → sp vs H Q E) : FnG P w K mg base CX k f fd ps sp' :=
  ⟨fun vs H Q E q => F.len vs H Q E (h _ _ _ _ q), fun A outer s H args us vs Q E hr hg he hb hv hs => F.run A outer s H args us vs Q E hr hg he hb hv (h _ _ _ _ hs)⟩
theorem rep_ints {K : PySem.W.Frag} {ca : Str → Addr} {H : Hp} : ∀ ns : List Int, RepA K ca H (ns.map V.int) (ns.map D.int)
  | [] => .nil
  | n :: ns => .cons (.int n) (rep_ints ns)
theorem sp_law {K : PySem.W.Frag} {ca : Str → Addr} : ∀ vs H Q E, spLaw K vs H Q E → spM K ca k_law false false m_law vs H Q E := by
  rintro vs H Q E ⟨a, ns, rfl, hS, hl, hq⟩
  have cn : ∀ j b, cOf k_law [V.ref a] j ≠ some b := fun j b h => by
    obtain ⟨e1, e2⟩ := cOf_some h
    cases j with
    | zero => cases e1
    | succ j => cases e1
  refine ⟨fun _ => false, [.lsq (ns.map .int)], ⟨rfl, rfl, fun b hb => (by cases hb), fun j b h => (cn j b h).elim, fun j k b h _ => (cn j b h).elim, fun j k v d hk hv hd => ?_⟩, ?_⟩
  · cases j with
    | zero =>
      cases hk; cases hv; cases hd
      have hm : mask H (fun _ => false) = H := rfl
      show Rep K ca (mask H fun _ => false) (.ref a) (.lsq (ns.map .int))
      rw [hm]
      exact .lsq hS (rep_ints ns)
    | succ j => cases hk
  · rw [law_ev ns hl]
    intro v H' B1 _ _ hr
    obtain ⟨rfl, hr⟩ := hr
    have : v = .bl true := by cases hr; rfl
    subst this
    exact hq H'
section
variable {P : Program} {w : World} {K : PySem.W.Frag} {mg : Str → Option Value} {base : Heap} {Z : Addrs}
theorem ok_lawG {f4 : Addr} {fd4 : FuncData} (F4 : Fun K "law" "law" s_law f4 fd4) (T : Txt K mg Z) : FnG P w K mg base CX0 90 f4 fd4 ["script"] (spLaw K) := (c_law F4 T).imp sp_law
end

section
variable {P : Program} {w : World} {K : PySem.W.Frag} {mg mb : Str → Option Value} {k : Nat} {fa a : Addr} {fd : FuncData} {x : Str} {sp : Sp} {s₁ : Shared} {vs : List Value} {ns : List Int}
theorem call_G (KX : K.In s₁.heap) (hns : s₁.heap.Ns mainGlobals mg) (hb : s₁.heap.Ns builtinsNs mb) (hbb : ∀ x : Str, x ≠ "__name__" → mb x = bootBuiltins x) (hlim : s₁.heap.NoLimit) (hg : s₁.gens = #[])
    (ha : s₁.heap.get? a = some { cls := .type "list", data := .seq vs.toArray }) (hi : IntsAre vs ns) (hl : ns.length ≤ sizeLine) (hr : Room k callerA)
    (F : ∀ base : Heap, K.In base → base.Ns mainGlobals mg → FnG P w K mg base CX0 k fa fd [x] sp) (hbind : ∀ (s : Shared) (u : Value), BindsTo s fd ⟨[u], []⟩ [(x, u)])
    (hsp : ∀ H : Hp, SqL K H a (ns.map V.int) → sp [.ref a] H (fun v _ => v = .bl true) fun _ _ _ => False) :
    codeAny (model P w) callerA (.call (.ref fa) ⟨[.ref a], []⟩) (fun r s' => r = .ok (.ret (.bool true)) ∧ OldK s₁.heap s'.heap ∧ s'.os = s₁.os ∧ AllBare s'.gens) s₁ := by
  have rv := vals_ints hi
  have lenV := hi.length
  have main : ∀ H : Hp, (∀ b u, H b = some u → b = a ∧ K.lookup a = none ∧ u = .frz { cls := .type "list", data := .seq vs.toArray } (.lst (ns.map V.int))) → SqL K H a (ns.map V.int) → HOk P w H s₁.heap →
      codeAny (model P w) callerA (.call (.ref fa) ⟨[.ref a], []⟩) (fun r s' => r = .ok (.ret (.bool true)) ∧ OldK s₁.heap s'.heap ∧ s'.os = s₁.os ∧ AllBare s'.gens) s₁ := by
    intro H only hS hok
    have out : ∀ {b : Addr} {o : Obj}, s₁.heap.get? b = some o → (b = a → K.lookup a ≠ none ∨ ∃ es ep, o.data = .dict es ep) → H b = none := fun {b o} e h => by
      cases q : H b with
      | none => rfl
      | some u =>
        obtain ⟨rfl, hk, _⟩ := only b u q
        rcases h rfl with h | ⟨es, ep, h⟩
        · exact (h hk).elim
        · rw [ha] at e; cases e; cases h
    have nsK : ∀ {b : Addr} {m : Str → Option Value}, s₁.heap.Ns b m → (hidT s₁.heap H).Ns b m := fun {b m} ⟨o, es, ep, e, d, r⟩ => ⟨o, es, ep, hidT_get e (out e fun _ => .inr ⟨es, ep, d⟩), d, r⟩
    have hKb : K.In (hidT s₁.heap H) := fun b o e => hidT_get (KX b o e) (out (KX b o e) fun z => .inl (by rw [← z, e]; intro q; cases q))
    have hM : Mod K mg (hidT s₁.heap H) := ⟨hKb, nsK hns, ⟨mb, nsK hb, hbb⟩, let ⟨mc, h1, h2⟩ := hlim; ⟨mc, nsK h1, h2⟩⟩
    have e0 : Env0 P w K mg (hidT s₁.heap H) callerA [] s₁ H := ⟨rfl, hM, fun b o e => of_hidT e, Nat.le_of_eq (hidT_size _ _), trivial, fun b hb => (nomatch hb), hok, .of_eq hg⟩
    refine codeAny_mono ((F _ hKb (nsK hns)).run callerA [] s₁ H ⟨[.ref a], []⟩ [.ref a] [.ref a] _ _ hr rfl e0 (hbind s₁ (.ref a)) (.cons rfl .nil) (hsp H hS)) fun r s' h => ?_
    cases r with
    | error e => exact h.elim
    | ok fl =>
      cases fl with
      | next => exact False.elim h
      | brk => exact False.elim h
      | cont => exact False.elim h
      | ret u =>
        obtain ⟨v, H', os, bare, un, hok', r', q⟩ := h
        have q' : v = .bl true := q
        subst q'
        obtain rfl : u = Value.bool true := r'
        refine ⟨rfl, OldK.of_keep fun b o e => ?_, os, bare⟩
        cases q : H b with
        | none => exact un.keep b o e q (fun z => (nomatch z)) (by simp)
        | some u =>
          obtain ⟨rfl, _, rfl⟩ := only b u q
          have z2 := un.frzs b _ _ q
          obtain ⟨e1, _⟩ := hok b _ q
          obtain ⟨e2, _⟩ := hok' b _ z2
          rw [e] at e1; cases e1
          exact e2
  cases hk : K.lookup a with
  | some o =>
    have e := KX a o hk
    rw [ha] at e
    cases e
    exact main (fun _ => none) (fun _ _ z => (nomatch z)) (.inr ⟨_, vs.toArray, _, hk, rfl, rfl, rfl, by rw [List.size_toArray, lenV]; exact hl, by simpa using rv⟩) fun b u z => (nomatch z)
  | none =>
    refine main (fun b => if b = a then some (.frz { cls := .type "list", data := .seq vs.toArray } (.lst (ns.map V.int))) else none) (fun b u z => ?_) (.inl (.inr ⟨{ cls := .type "list", data := .seq vs.toArray }, if_pos rfl⟩)) fun b u z => ?_
    · by_cases q : b = a
      · have z := (if_pos q).symm.trans z; cases z; exact ⟨q, hk, rfl⟩
      · have z := (if_neg q).symm.trans z; cases z
    · by_cases q : b = a
      · have z := (if_pos q).symm.trans z
        cases z; subst q
        exact ⟨ha, by rw [List.length_map]; exact hl, vs, _, rv, ha⟩
      · have z := (if_neg q).symm.trans z; cases z
end

theorem facts {l : PySem.W.OpenLaw} {w : World} {K : PySem.W.Frag} {h : Heap} {mg : Str → Option Value} {fa : Addr} (X : K.In h) (G : h.Ns mainGlobals mg) (hfa : mg "law" = some (.ref fa)) (c : SaysK fns bsL K) :
    ∃ fd : FuncData, (∀ (s : Shared) (v : Value), BindsTo s fd ⟨[v], []⟩ [("script", v)]) ∧ ∀ base : Heap, K.In base → base.Ns mainGlobals mg → FnG l.prog w K mg base CX0 90 fa fd ["script"] (spLaw K) := by
  have hal : (defP K && exP0 K) = true := c.more allP List.mem_cons_self
  obtain ⟨hd, p0⟩ := Bool.and_eq_true_iff.mp hal
  have hd : (fns.all fun d => d.ok K) = true := hd
  have h0 : (ex0 K).all (fun b => b) = true := List.all_eq_true.mp p0 ex0 (List.mem_of_getElem? (i := 0) rfl)
  have h1 : (ex1 K).all (fun b => b) = true := List.all_eq_true.mp p0 ex1 (List.mem_of_getElem? (i := 1) rfl)
  have h2 : (ex2 K).all (fun b => b) = true := List.all_eq_true.mp p0 ex2 (List.mem_of_getElem? (i := 2) rfl)
  have h3 : (ex3 K).all (fun b => b) = true := List.all_eq_true.mp p0 ex3 (List.mem_of_getElem? (i := 3) rfl)
  have h4 : (ex4 K).all (fun b => b) = true := List.all_eq_true.mp p0 ex4 (List.mem_of_getElem? (i := 4) rfl)
  have h5 : (ex5 K).all (fun b => b) = true := List.all_eq_true.mp p0 ex5 (List.mem_of_getElem? (i := 5) rfl)
  have h6 : (ex6 K).all (fun b => b) = true := List.all_eq_true.mp p0 ex6 (List.mem_of_getElem? (i := 6) rfl)
  have h7 : (ex7 K).all (fun b => b) = true := List.all_eq_true.mp p0 ex7 (List.mem_of_getElem? (i := 7) rfl)
  have h8 : (ex8 K).all (fun b => b) = true := List.all_eq_true.mp p0 ex8 (List.mem_of_getElem? (i := 8) rfl)
  have h9 : (ex9 K).all (fun b => b) = true := List.all_eq_true.mp p0 ex9 (List.mem_of_getElem? (i := 9) rfl)
  have h10 : (ex10 K).all (fun b => b) = true := List.all_eq_true.mp p0 ex10 (List.mem_of_getElem? (i := 10) rfl)
  have h11 : (ex11 K).all (fun b => b) = true := List.all_eq_true.mp p0 ex11 (List.mem_of_getElem? (i := 11) rfl)
  have h12 : (ex12 K).all (fun b => b) = true := List.all_eq_true.mp p0 ex12 (List.mem_of_getElem? (i := 12) rfl)
  have h13 : (ex13 K).all (fun b => b) = true := List.all_eq_true.mp p0 ex13 (List.mem_of_getElem? (i := 13) rfl)
  have h14 : (ex14 K).all (fun b => b) = true := List.all_eq_true.mp p0 ex14 (List.mem_of_getElem? (i := 14) rfl)
  have h15 : (ex15 K).all (fun b => b) = true := List.all_eq_true.mp p0 ex15 (List.mem_of_getElem? (i := 15) rfl)
  have h16 : (ex16 K).all (fun b => b) = true := List.all_eq_true.mp p0 ex16 (List.mem_of_getElem? (i := 16) rfl)
  have h17 : (ex17 K).all (fun b => b) = true := List.all_eq_true.mp p0 ex17 (List.mem_of_getElem? (i := 17) rfl)
  have h18 : (ex18 K).all (fun b => b) = true := List.all_eq_true.mp p0 ex18 (List.mem_of_getElem? (i := 18) rfl)
  have h19 : (ex19 K).all (fun b => b) = true := List.all_eq_true.mp p0 ex19 (List.mem_of_getElem? (i := 19) rfl)
  have h20 : (ex20 K).all (fun b => b) = true := List.all_eq_true.mp p0 ex20 (List.mem_of_getElem? (i := 20) rfl)
  have h21 : (ex21 K).all (fun b => b) = true := List.all_eq_true.mp p0 ex21 (List.mem_of_getElem? (i := 21) rfl)
  have h22 : (ex22 K).all (fun b => b) = true := List.all_eq_true.mp p0 ex22 (List.mem_of_getElem? (i := 22) rfl)
  have h23 : (ex23 K).all (fun b => b) = true := List.all_eq_true.mp p0 ex23 (List.mem_of_getElem? (i := 23) rfl)
  have h24 : (ex24 K).all (fun b => b) = true := List.all_eq_true.mp p0 ex24 (List.mem_of_getElem? (i := 24) rfl)
  have h25 : (ex25 K).all (fun b => b) = true := List.all_eq_true.mp p0 ex25 (List.mem_of_getElem? (i := 25) rfl)
  have e := hfa.symm.trans (PySem.W.mg_of X G (show PySem.W.nsIn K mainGlobals "law" = some (some (.ref (He.ga K "law"))) from (show PySem.W.nsIn K mainGlobals "law" = some (some (.ref (He.ga K "law"))) from nthP h25 3 rfl)))
  cases e
  have T : Txt K mg ⟨(He.ga K "EarlyError"), (He.ga K "BadText"), (He.ga K "TooMany"), (He.ga K "Twice"), (He.ga K "NoClass"), (He.ga K "NoOrder"), (He.ga K "NotABase"), (He.ga K "Final"), (He.ga K "NotChained"), (He.ga K "NotLawful"), (He.ga K "BadKey"), (He.ga K "BadName"), (He.ga K "BadOrder"), (He.ga K "BadDeed"), (He.ga K "BadLimit"), (He.ga K "Far"), (He.ga K "Gap"), (He.ga K "Long"), (He.ga K "NoObject"), (He.ga K "NoEnd")⟩ := {
    b_LookupError := PySem.W.mg_none_of X G (show PySem.W.nsIn K mainGlobals "LookupError" = some none from nthP h0 0 rfl)
    b_RuntimeError := PySem.W.mg_none_of X G (show PySem.W.nsIn K mainGlobals "RuntimeError" = some none from nthP h0 1 rfl)
    b_ValueError := PySem.W.mg_none_of X G (show PySem.W.nsIn K mainGlobals "ValueError" = some none from nthP h0 2 rfl)
    b_abs := PySem.W.mg_none_of X G (show PySem.W.nsIn K mainGlobals "abs" = some none from nthP h0 3 rfl)
    b_enumerate := PySem.W.mg_none_of X G (show PySem.W.nsIn K mainGlobals "enumerate" = some none from nthP h0 4 rfl)
    b_int := PySem.W.mg_none_of X G (show PySem.W.nsIn K mainGlobals "int" = some none from nthP h0 5 rfl)
    b_isinstance := PySem.W.mg_none_of X G (show PySem.W.nsIn K mainGlobals "isinstance" = some none from nthP h0 6 rfl)
    b_len := PySem.W.mg_none_of X G (show PySem.W.nsIn K mainGlobals "len" = some none from nthP h0 7 rfl)
    b_max := PySem.W.mg_none_of X G (show PySem.W.nsIn K mainGlobals "max" = some none from nthP h0 8 rfl)
    b_min := PySem.W.mg_none_of X G (show PySem.W.nsIn K mainGlobals "min" = some none from nthP h0 9 rfl)
    b_range := PySem.W.mg_none_of X G (show PySem.W.nsIn K mainGlobals "range" = some none from nthP h0 10 rfl)
    b_repr := PySem.W.mg_none_of X G (show PySem.W.nsIn K mainGlobals "repr" = some none from nthP h0 11 rfl)
    b_str := PySem.W.mg_none_of X G (show PySem.W.nsIn K mainGlobals "str" = some none from nthP h0 12 rfl)
    k_EarlyError := PySem.W.mg_of X G (show PySem.W.nsIn K mainGlobals "EarlyError" = some (some (.ref (He.ga K "EarlyError"))) from nthP h0 13 rfl)
    k_BadText := PySem.W.mg_of X G (show PySem.W.nsIn K mainGlobals "BadText" = some (some (.ref (He.ga K "BadText"))) from nthP h0 14 rfl)
    ec_BadText := ⟨(show PySem.W.findIn K (.ref (He.ga K "BadText")) "__getattribute__" = some (some (.builtin "BaseException.__getattribute__")) from nthP h1 2 rfl), (show PySem.W.findIn K (.ref (He.ga K "BadText")) "__getattr__" = some none from nthP h1 3 rfl), (show PySem.W.subIn K (.ref (He.ga K "BadText")) (.type "BaseException") = some true from nthP h1 1 rfl), (show PySem.W.hasDictIn K (He.ga K "BadText") = true from nthP h1 0 rfl), (show PySem.W.findIn K (.ref (He.ga K "BadText")) "__class__" = some (some (.builtin "object.__class__")) from nthP h1 4 rfl), (show PySem.W.specialIn K (.builtin "object.__class__") "__get__" = some (some (.builtin "getset_descriptor.__get__")) from nthP h1 5 rfl), (show PySem.W.takesIn K (.builtin "object.__class__") = some true from nthP h1 6 rfl), (show PySem.W.mroIn K (He.ga K "BadText") (.type "object") = some true from nthP h1 7 rfl)⟩
    y_BadText := ⟨⟨_, _, _, _, PySem.F.excBase_ValueError, PySem.F.store_ValueError, (nthB h1 9 rfl), (nthB h1 10 rfl)⟩, (show PySem.W.hasDictIn K (He.ga K "BadText") = true from nthP h1 0 rfl), (show PySem.W.findIn K (.ref (He.ga K "BadText")) "__setattr__" = some (some (.builtin "object.__setattr__")) from nthP h1 11 rfl), (show PySem.W.subIn K (.ref (He.ga K "BadText")) (.type "BaseException") = some true from nthP h1 1 rfl), (show PySem.W.typeIn K (.ref (He.ga K "BadText")) = some (.type "type") from nthP h1 12 rfl), (show PySem.W.keepIn K (.ref (He.ga K "BadText")) = true from nthP h1 8 rfl)⟩
    n_BadText_at := (show PySem.W.findIn K (.ref (He.ga K "BadText")) "at" = some none from nthP h1 13 rfl)
    k_TooMany := PySem.W.mg_of X G (show PySem.W.nsIn K mainGlobals "TooMany" = some (some (.ref (He.ga K "TooMany"))) from nthP h1 14 rfl)
    ec_TooMany := ⟨(show PySem.W.findIn K (.ref (He.ga K "TooMany")) "__getattribute__" = some (some (.builtin "BaseException.__getattribute__")) from nthP h2 2 rfl), (show PySem.W.findIn K (.ref (He.ga K "TooMany")) "__getattr__" = some none from nthP h2 3 rfl), (show PySem.W.subIn K (.ref (He.ga K "TooMany")) (.type "BaseException") = some true from nthP h2 1 rfl), (show PySem.W.hasDictIn K (He.ga K "TooMany") = true from nthP h2 0 rfl), (show PySem.W.findIn K (.ref (He.ga K "TooMany")) "__class__" = some (some (.builtin "object.__class__")) from nthP h2 4 rfl), (show PySem.W.specialIn K (.builtin "object.__class__") "__get__" = some (some (.builtin "getset_descriptor.__get__")) from nthP h2 5 rfl), (show PySem.W.takesIn K (.builtin "object.__class__") = some true from nthP h2 6 rfl), (show PySem.W.mroIn K (He.ga K "TooMany") (.type "object") = some true from nthP h2 7 rfl)⟩
    y_TooMany := ⟨⟨_, _, _, _, PySem.F.excBase_ValueError, PySem.F.store_ValueError, (nthB h2 9 rfl), (nthB h2 10 rfl)⟩, (show PySem.W.hasDictIn K (He.ga K "TooMany") = true from nthP h2 0 rfl), (show PySem.W.findIn K (.ref (He.ga K "TooMany")) "__setattr__" = some (some (.builtin "object.__setattr__")) from nthP h2 11 rfl), (show PySem.W.subIn K (.ref (He.ga K "TooMany")) (.type "BaseException") = some true from nthP h2 1 rfl), (show PySem.W.typeIn K (.ref (He.ga K "TooMany")) = some (.type "type") from nthP h2 12 rfl), (show PySem.W.keepIn K (.ref (He.ga K "TooMany")) = true from nthP h2 8 rfl)⟩
    n_TooMany_what := (show PySem.W.findIn K (.ref (He.ga K "TooMany")) "what" = some none from nthP h2 13 rfl)
    k_Twice := PySem.W.mg_of X G (show PySem.W.nsIn K mainGlobals "Twice" = some (some (.ref (He.ga K "Twice"))) from nthP h2 14 rfl)
    ec_Twice := ⟨(show PySem.W.findIn K (.ref (He.ga K "Twice")) "__getattribute__" = some (some (.builtin "BaseException.__getattribute__")) from nthP h3 2 rfl), (show PySem.W.findIn K (.ref (He.ga K "Twice")) "__getattr__" = some none from nthP h3 3 rfl), (show PySem.W.subIn K (.ref (He.ga K "Twice")) (.type "BaseException") = some true from nthP h3 1 rfl), (show PySem.W.hasDictIn K (He.ga K "Twice") = true from nthP h3 0 rfl), (show PySem.W.findIn K (.ref (He.ga K "Twice")) "__class__" = some (some (.builtin "object.__class__")) from nthP h3 4 rfl), (show PySem.W.specialIn K (.builtin "object.__class__") "__get__" = some (some (.builtin "getset_descriptor.__get__")) from nthP h3 5 rfl), (show PySem.W.takesIn K (.builtin "object.__class__") = some true from nthP h3 6 rfl), (show PySem.W.mroIn K (He.ga K "Twice") (.type "object") = some true from nthP h3 7 rfl)⟩
    y_Twice := ⟨⟨_, _, _, _, PySem.F.excBase_ValueError, PySem.F.store_ValueError, (nthB h3 9 rfl), (nthB h3 10 rfl)⟩, (show PySem.W.hasDictIn K (He.ga K "Twice") = true from nthP h3 0 rfl), (show PySem.W.findIn K (.ref (He.ga K "Twice")) "__setattr__" = some (some (.builtin "object.__setattr__")) from nthP h3 11 rfl), (show PySem.W.subIn K (.ref (He.ga K "Twice")) (.type "BaseException") = some true from nthP h3 1 rfl), (show PySem.W.typeIn K (.ref (He.ga K "Twice")) = some (.type "type") from nthP h3 12 rfl), (show PySem.W.keepIn K (.ref (He.ga K "Twice")) = true from nthP h3 8 rfl)⟩
    n_Twice_name := (show PySem.W.findIn K (.ref (He.ga K "Twice")) "name" = some none from nthP h3 13 rfl)
    k_NoClass := PySem.W.mg_of X G (show PySem.W.nsIn K mainGlobals "NoClass" = some (some (.ref (He.ga K "NoClass"))) from nthP h3 14 rfl)
    ec_NoClass := ⟨(show PySem.W.findIn K (.ref (He.ga K "NoClass")) "__getattribute__" = some (some (.builtin "BaseException.__getattribute__")) from nthP h4 2 rfl), (show PySem.W.findIn K (.ref (He.ga K "NoClass")) "__getattr__" = some none from nthP h4 3 rfl), (show PySem.W.subIn K (.ref (He.ga K "NoClass")) (.type "BaseException") = some true from nthP h4 1 rfl), (show PySem.W.hasDictIn K (He.ga K "NoClass") = true from nthP h4 0 rfl), (show PySem.W.findIn K (.ref (He.ga K "NoClass")) "__class__" = some (some (.builtin "object.__class__")) from nthP h4 4 rfl), (show PySem.W.specialIn K (.builtin "object.__class__") "__get__" = some (some (.builtin "getset_descriptor.__get__")) from nthP h4 5 rfl), (show PySem.W.takesIn K (.builtin "object.__class__") = some true from nthP h4 6 rfl), (show PySem.W.mroIn K (He.ga K "NoClass") (.type "object") = some true from nthP h4 7 rfl)⟩
    y_NoClass := ⟨⟨_, _, _, _, PySem.F.excBase_ValueError, PySem.F.store_ValueError, (nthB h4 9 rfl), (nthB h4 10 rfl)⟩, (show PySem.W.hasDictIn K (He.ga K "NoClass") = true from nthP h4 0 rfl), (show PySem.W.findIn K (.ref (He.ga K "NoClass")) "__setattr__" = some (some (.builtin "object.__setattr__")) from nthP h4 11 rfl), (show PySem.W.subIn K (.ref (He.ga K "NoClass")) (.type "BaseException") = some true from nthP h4 1 rfl), (show PySem.W.typeIn K (.ref (He.ga K "NoClass")) = some (.type "type") from nthP h4 12 rfl), (show PySem.W.keepIn K (.ref (He.ga K "NoClass")) = true from nthP h4 8 rfl)⟩
    n_NoClass_name := (show PySem.W.findIn K (.ref (He.ga K "NoClass")) "name" = some none from nthP h4 13 rfl)
    k_NoOrder := PySem.W.mg_of X G (show PySem.W.nsIn K mainGlobals "NoOrder" = some (some (.ref (He.ga K "NoOrder"))) from nthP h4 14 rfl)
    ec_NoOrder := ⟨(show PySem.W.findIn K (.ref (He.ga K "NoOrder")) "__getattribute__" = some (some (.builtin "BaseException.__getattribute__")) from nthP h5 2 rfl), (show PySem.W.findIn K (.ref (He.ga K "NoOrder")) "__getattr__" = some none from nthP h5 3 rfl), (show PySem.W.subIn K (.ref (He.ga K "NoOrder")) (.type "BaseException") = some true from nthP h5 1 rfl), (show PySem.W.hasDictIn K (He.ga K "NoOrder") = true from nthP h5 0 rfl), (show PySem.W.findIn K (.ref (He.ga K "NoOrder")) "__class__" = some (some (.builtin "object.__class__")) from nthP h5 4 rfl), (show PySem.W.specialIn K (.builtin "object.__class__") "__get__" = some (some (.builtin "getset_descriptor.__get__")) from nthP h5 5 rfl), (show PySem.W.takesIn K (.builtin "object.__class__") = some true from nthP h5 6 rfl), (show PySem.W.mroIn K (He.ga K "NoOrder") (.type "object") = some true from nthP h5 7 rfl)⟩
    y_NoOrder := ⟨⟨_, _, _, _, PySem.F.excBase_ValueError, PySem.F.store_ValueError, (nthB h5 9 rfl), (nthB h5 10 rfl)⟩, (show PySem.W.hasDictIn K (He.ga K "NoOrder") = true from nthP h5 0 rfl), (show PySem.W.findIn K (.ref (He.ga K "NoOrder")) "__setattr__" = some (some (.builtin "object.__setattr__")) from nthP h5 11 rfl), (show PySem.W.subIn K (.ref (He.ga K "NoOrder")) (.type "BaseException") = some true from nthP h5 1 rfl), (show PySem.W.typeIn K (.ref (He.ga K "NoOrder")) = some (.type "type") from nthP h5 12 rfl), (show PySem.W.keepIn K (.ref (He.ga K "NoOrder")) = true from nthP h5 8 rfl)⟩
    n_NoOrder_name := (show PySem.W.findIn K (.ref (He.ga K "NoOrder")) "name" = some none from nthP h5 13 rfl)
    k_NotABase := PySem.W.mg_of X G (show PySem.W.nsIn K mainGlobals "NotABase" = some (some (.ref (He.ga K "NotABase"))) from nthP h5 14 rfl)
    ec_NotABase := ⟨(show PySem.W.findIn K (.ref (He.ga K "NotABase")) "__getattribute__" = some (some (.builtin "BaseException.__getattribute__")) from nthP h6 2 rfl), (show PySem.W.findIn K (.ref (He.ga K "NotABase")) "__getattr__" = some none from nthP h6 3 rfl), (show PySem.W.subIn K (.ref (He.ga K "NotABase")) (.type "BaseException") = some true from nthP h6 1 rfl), (show PySem.W.hasDictIn K (He.ga K "NotABase") = true from nthP h6 0 rfl), (show PySem.W.findIn K (.ref (He.ga K "NotABase")) "__class__" = some (some (.builtin "object.__class__")) from nthP h6 4 rfl), (show PySem.W.specialIn K (.builtin "object.__class__") "__get__" = some (some (.builtin "getset_descriptor.__get__")) from nthP h6 5 rfl), (show PySem.W.takesIn K (.builtin "object.__class__") = some true from nthP h6 6 rfl), (show PySem.W.mroIn K (He.ga K "NotABase") (.type "object") = some true from nthP h6 7 rfl)⟩
    y_NotABase := ⟨⟨_, _, _, _, PySem.F.excBase_ValueError, PySem.F.store_ValueError, (nthB h6 9 rfl), (nthB h6 10 rfl)⟩, (show PySem.W.hasDictIn K (He.ga K "NotABase") = true from nthP h6 0 rfl), (show PySem.W.findIn K (.ref (He.ga K "NotABase")) "__setattr__" = some (some (.builtin "object.__setattr__")) from nthP h6 11 rfl), (show PySem.W.subIn K (.ref (He.ga K "NotABase")) (.type "BaseException") = some true from nthP h6 1 rfl), (show PySem.W.typeIn K (.ref (He.ga K "NotABase")) = some (.type "type") from nthP h6 12 rfl), (show PySem.W.keepIn K (.ref (He.ga K "NotABase")) = true from nthP h6 8 rfl)⟩
    n_NotABase_owner := (show PySem.W.findIn K (.ref (He.ga K "NotABase")) "owner" = some none from nthP h6 13 rfl)
    n_NotABase_key := (show PySem.W.findIn K (.ref (He.ga K "NotABase")) "key" = some none from nthP h6 14 rfl)
    n_NotABase_path := (show PySem.W.findIn K (.ref (He.ga K "NotABase")) "path" = some none from nthP h7 0 rfl)
    k_Final := PySem.W.mg_of X G (show PySem.W.nsIn K mainGlobals "Final" = some (some (.ref (He.ga K "Final"))) from nthP h7 1 rfl)
    ec_Final := ⟨(show PySem.W.findIn K (.ref (He.ga K "Final")) "__getattribute__" = some (some (.builtin "BaseException.__getattribute__")) from nthP h7 4 rfl), (show PySem.W.findIn K (.ref (He.ga K "Final")) "__getattr__" = some none from nthP h7 5 rfl), (show PySem.W.subIn K (.ref (He.ga K "Final")) (.type "BaseException") = some true from nthP h7 3 rfl), (show PySem.W.hasDictIn K (He.ga K "Final") = true from nthP h7 2 rfl), (show PySem.W.findIn K (.ref (He.ga K "Final")) "__class__" = some (some (.builtin "object.__class__")) from nthP h7 6 rfl), (show PySem.W.specialIn K (.builtin "object.__class__") "__get__" = some (some (.builtin "getset_descriptor.__get__")) from nthP h7 7 rfl), (show PySem.W.takesIn K (.builtin "object.__class__") = some true from nthP h7 8 rfl), (show PySem.W.mroIn K (He.ga K "Final") (.type "object") = some true from nthP h7 9 rfl)⟩
    y_Final := ⟨⟨_, _, _, _, PySem.F.excBase_ValueError, PySem.F.store_ValueError, (nthB h7 11 rfl), (nthB h7 12 rfl)⟩, (show PySem.W.hasDictIn K (He.ga K "Final") = true from nthP h7 2 rfl), (show PySem.W.findIn K (.ref (He.ga K "Final")) "__setattr__" = some (some (.builtin "object.__setattr__")) from nthP h7 13 rfl), (show PySem.W.subIn K (.ref (He.ga K "Final")) (.type "BaseException") = some true from nthP h7 3 rfl), (show PySem.W.typeIn K (.ref (He.ga K "Final")) = some (.type "type") from nthP h7 14 rfl), (show PySem.W.keepIn K (.ref (He.ga K "Final")) = true from nthP h7 10 rfl)⟩
    n_Final_name := (show PySem.W.findIn K (.ref (He.ga K "Final")) "name" = some none from nthP h8 0 rfl)
    n_Final_key := (show PySem.W.findIn K (.ref (He.ga K "Final")) "key" = some none from nthP h8 1 rfl)
    k_NotChained := PySem.W.mg_of X G (show PySem.W.nsIn K mainGlobals "NotChained" = some (some (.ref (He.ga K "NotChained"))) from nthP h8 2 rfl)
    ec_NotChained := ⟨(show PySem.W.findIn K (.ref (He.ga K "NotChained")) "__getattribute__" = some (some (.builtin "BaseException.__getattribute__")) from nthP h8 5 rfl), (show PySem.W.findIn K (.ref (He.ga K "NotChained")) "__getattr__" = some none from nthP h8 6 rfl), (show PySem.W.subIn K (.ref (He.ga K "NotChained")) (.type "BaseException") = some true from nthP h8 4 rfl), (show PySem.W.hasDictIn K (He.ga K "NotChained") = true from nthP h8 3 rfl), (show PySem.W.findIn K (.ref (He.ga K "NotChained")) "__class__" = some (some (.builtin "object.__class__")) from nthP h8 7 rfl), (show PySem.W.specialIn K (.builtin "object.__class__") "__get__" = some (some (.builtin "getset_descriptor.__get__")) from nthP h8 8 rfl), (show PySem.W.takesIn K (.builtin "object.__class__") = some true from nthP h8 9 rfl), (show PySem.W.mroIn K (He.ga K "NotChained") (.type "object") = some true from nthP h8 10 rfl)⟩
    y_NotChained := ⟨⟨_, _, _, _, PySem.F.excBase_ValueError, PySem.F.store_ValueError, (nthB h8 12 rfl), (nthB h8 13 rfl)⟩, (show PySem.W.hasDictIn K (He.ga K "NotChained") = true from nthP h8 3 rfl), (show PySem.W.findIn K (.ref (He.ga K "NotChained")) "__setattr__" = some (some (.builtin "object.__setattr__")) from nthP h8 14 rfl), (show PySem.W.subIn K (.ref (He.ga K "NotChained")) (.type "BaseException") = some true from nthP h8 4 rfl), (show PySem.W.typeIn K (.ref (He.ga K "NotChained")) = some (.type "type") from nthP h9 0 rfl), (show PySem.W.keepIn K (.ref (He.ga K "NotChained")) = true from nthP h8 11 rfl)⟩
    n_NotChained_name := (show PySem.W.findIn K (.ref (He.ga K "NotChained")) "name" = some none from nthP h9 1 rfl)
    n_NotChained_key := (show PySem.W.findIn K (.ref (He.ga K "NotChained")) "key" = some none from nthP h9 2 rfl)
    k_NotLawful := PySem.W.mg_of X G (show PySem.W.nsIn K mainGlobals "NotLawful" = some (some (.ref (He.ga K "NotLawful"))) from nthP h9 3 rfl)
    ec_NotLawful := ⟨(show PySem.W.findIn K (.ref (He.ga K "NotLawful")) "__getattribute__" = some (some (.builtin "BaseException.__getattribute__")) from nthP h9 6 rfl), (show PySem.W.findIn K (.ref (He.ga K "NotLawful")) "__getattr__" = some none from nthP h9 7 rfl), (show PySem.W.subIn K (.ref (He.ga K "NotLawful")) (.type "BaseException") = some true from nthP h9 5 rfl), (show PySem.W.hasDictIn K (He.ga K "NotLawful") = true from nthP h9 4 rfl), (show PySem.W.findIn K (.ref (He.ga K "NotLawful")) "__class__" = some (some (.builtin "object.__class__")) from nthP h9 8 rfl), (show PySem.W.specialIn K (.builtin "object.__class__") "__get__" = some (some (.builtin "getset_descriptor.__get__")) from nthP h9 9 rfl), (show PySem.W.takesIn K (.builtin "object.__class__") = some true from nthP h9 10 rfl), (show PySem.W.mroIn K (He.ga K "NotLawful") (.type "object") = some true from nthP h9 11 rfl)⟩
    y_NotLawful := ⟨⟨_, _, _, _, PySem.F.excBase_ValueError, PySem.F.store_ValueError, (nthB h9 13 rfl), (nthB h9 14 rfl)⟩, (show PySem.W.hasDictIn K (He.ga K "NotLawful") = true from nthP h9 4 rfl), (show PySem.W.findIn K (.ref (He.ga K "NotLawful")) "__setattr__" = some (some (.builtin "object.__setattr__")) from nthP h10 0 rfl), (show PySem.W.subIn K (.ref (He.ga K "NotLawful")) (.type "BaseException") = some true from nthP h9 5 rfl), (show PySem.W.typeIn K (.ref (He.ga K "NotLawful")) = some (.type "type") from nthP h10 1 rfl), (show PySem.W.keepIn K (.ref (He.ga K "NotLawful")) = true from nthP h9 12 rfl)⟩
    n_NotLawful_owner := (show PySem.W.findIn K (.ref (He.ga K "NotLawful")) "owner" = some none from nthP h10 2 rfl)
    n_NotLawful_key := (show PySem.W.findIn K (.ref (He.ga K "NotLawful")) "key" = some none from nthP h10 3 rfl)
    n_NotLawful_path := (show PySem.W.findIn K (.ref (He.ga K "NotLawful")) "path" = some none from nthP h10 4 rfl)
    k_BadKey := PySem.W.mg_of X G (show PySem.W.nsIn K mainGlobals "BadKey" = some (some (.ref (He.ga K "BadKey"))) from nthP h10 5 rfl)
    ec_BadKey := ⟨(show PySem.W.findIn K (.ref (He.ga K "BadKey")) "__getattribute__" = some (some (.builtin "BaseException.__getattribute__")) from nthP h10 8 rfl), (show PySem.W.findIn K (.ref (He.ga K "BadKey")) "__getattr__" = some none from nthP h10 9 rfl), (show PySem.W.subIn K (.ref (He.ga K "BadKey")) (.type "BaseException") = some true from nthP h10 7 rfl), (show PySem.W.hasDictIn K (He.ga K "BadKey") = true from nthP h10 6 rfl), (show PySem.W.findIn K (.ref (He.ga K "BadKey")) "__class__" = some (some (.builtin "object.__class__")) from nthP h10 10 rfl), (show PySem.W.specialIn K (.builtin "object.__class__") "__get__" = some (some (.builtin "getset_descriptor.__get__")) from nthP h10 11 rfl), (show PySem.W.takesIn K (.builtin "object.__class__") = some true from nthP h10 12 rfl), (show PySem.W.mroIn K (He.ga K "BadKey") (.type "object") = some true from nthP h10 13 rfl)⟩
    y_BadKey := ⟨⟨_, _, _, _, PySem.F.excBase_ValueError, PySem.F.store_ValueError, (nthB h11 0 rfl), (nthB h11 1 rfl)⟩, (show PySem.W.hasDictIn K (He.ga K "BadKey") = true from nthP h10 6 rfl), (show PySem.W.findIn K (.ref (He.ga K "BadKey")) "__setattr__" = some (some (.builtin "object.__setattr__")) from nthP h11 2 rfl), (show PySem.W.subIn K (.ref (He.ga K "BadKey")) (.type "BaseException") = some true from nthP h10 7 rfl), (show PySem.W.typeIn K (.ref (He.ga K "BadKey")) = some (.type "type") from nthP h11 3 rfl), (show PySem.W.keepIn K (.ref (He.ga K "BadKey")) = true from nthP h10 14 rfl)⟩
    n_BadKey_key := (show PySem.W.findIn K (.ref (He.ga K "BadKey")) "key" = some none from nthP h11 4 rfl)
    k_BadName := PySem.W.mg_of X G (show PySem.W.nsIn K mainGlobals "BadName" = some (some (.ref (He.ga K "BadName"))) from nthP h11 5 rfl)
    ec_BadName := ⟨(show PySem.W.findIn K (.ref (He.ga K "BadName")) "__getattribute__" = some (some (.builtin "BaseException.__getattribute__")) from nthP h11 8 rfl), (show PySem.W.findIn K (.ref (He.ga K "BadName")) "__getattr__" = some none from nthP h11 9 rfl), (show PySem.W.subIn K (.ref (He.ga K "BadName")) (.type "BaseException") = some true from nthP h11 7 rfl), (show PySem.W.hasDictIn K (He.ga K "BadName") = true from nthP h11 6 rfl), (show PySem.W.findIn K (.ref (He.ga K "BadName")) "__class__" = some (some (.builtin "object.__class__")) from nthP h11 10 rfl), (show PySem.W.specialIn K (.builtin "object.__class__") "__get__" = some (some (.builtin "getset_descriptor.__get__")) from nthP h11 11 rfl), (show PySem.W.takesIn K (.builtin "object.__class__") = some true from nthP h11 12 rfl), (show PySem.W.mroIn K (He.ga K "BadName") (.type "object") = some true from nthP h11 13 rfl)⟩
    y_BadName := ⟨⟨_, _, _, _, PySem.F.excBase_ValueError, PySem.F.store_ValueError, (nthB h12 0 rfl), (nthB h12 1 rfl)⟩, (show PySem.W.hasDictIn K (He.ga K "BadName") = true from nthP h11 6 rfl), (show PySem.W.findIn K (.ref (He.ga K "BadName")) "__setattr__" = some (some (.builtin "object.__setattr__")) from nthP h12 2 rfl), (show PySem.W.subIn K (.ref (He.ga K "BadName")) (.type "BaseException") = some true from nthP h11 7 rfl), (show PySem.W.typeIn K (.ref (He.ga K "BadName")) = some (.type "type") from nthP h12 3 rfl), (show PySem.W.keepIn K (.ref (He.ga K "BadName")) = true from nthP h11 14 rfl)⟩
    n_BadName_name := (show PySem.W.findIn K (.ref (He.ga K "BadName")) "name" = some none from nthP h12 4 rfl)
    k_BadOrder := PySem.W.mg_of X G (show PySem.W.nsIn K mainGlobals "BadOrder" = some (some (.ref (He.ga K "BadOrder"))) from nthP h12 5 rfl)
    ec_BadOrder := ⟨(show PySem.W.findIn K (.ref (He.ga K "BadOrder")) "__getattribute__" = some (some (.builtin "BaseException.__getattribute__")) from nthP h12 8 rfl), (show PySem.W.findIn K (.ref (He.ga K "BadOrder")) "__getattr__" = some none from nthP h12 9 rfl), (show PySem.W.subIn K (.ref (He.ga K "BadOrder")) (.type "BaseException") = some true from nthP h12 7 rfl), (show PySem.W.hasDictIn K (He.ga K "BadOrder") = true from nthP h12 6 rfl), (show PySem.W.findIn K (.ref (He.ga K "BadOrder")) "__class__" = some (some (.builtin "object.__class__")) from nthP h12 10 rfl), (show PySem.W.specialIn K (.builtin "object.__class__") "__get__" = some (some (.builtin "getset_descriptor.__get__")) from nthP h12 11 rfl), (show PySem.W.takesIn K (.builtin "object.__class__") = some true from nthP h12 12 rfl), (show PySem.W.mroIn K (He.ga K "BadOrder") (.type "object") = some true from nthP h12 13 rfl)⟩
    y_BadOrder := ⟨⟨_, _, _, _, PySem.F.excBase_ValueError, PySem.F.store_ValueError, (nthB h13 0 rfl), (nthB h13 1 rfl)⟩, (show PySem.W.hasDictIn K (He.ga K "BadOrder") = true from nthP h12 6 rfl), (show PySem.W.findIn K (.ref (He.ga K "BadOrder")) "__setattr__" = some (some (.builtin "object.__setattr__")) from nthP h13 2 rfl), (show PySem.W.subIn K (.ref (He.ga K "BadOrder")) (.type "BaseException") = some true from nthP h12 7 rfl), (show PySem.W.typeIn K (.ref (He.ga K "BadOrder")) = some (.type "type") from nthP h13 3 rfl), (show PySem.W.keepIn K (.ref (He.ga K "BadOrder")) = true from nthP h12 14 rfl)⟩
    n_BadOrder_value := (show PySem.W.findIn K (.ref (He.ga K "BadOrder")) "value" = some none from nthP h13 4 rfl)
    k_BadDeed := PySem.W.mg_of X G (show PySem.W.nsIn K mainGlobals "BadDeed" = some (some (.ref (He.ga K "BadDeed"))) from nthP h13 5 rfl)
    ec_BadDeed := ⟨(show PySem.W.findIn K (.ref (He.ga K "BadDeed")) "__getattribute__" = some (some (.builtin "BaseException.__getattribute__")) from nthP h13 8 rfl), (show PySem.W.findIn K (.ref (He.ga K "BadDeed")) "__getattr__" = some none from nthP h13 9 rfl), (show PySem.W.subIn K (.ref (He.ga K "BadDeed")) (.type "BaseException") = some true from nthP h13 7 rfl), (show PySem.W.hasDictIn K (He.ga K "BadDeed") = true from nthP h13 6 rfl), (show PySem.W.findIn K (.ref (He.ga K "BadDeed")) "__class__" = some (some (.builtin "object.__class__")) from nthP h13 10 rfl), (show PySem.W.specialIn K (.builtin "object.__class__") "__get__" = some (some (.builtin "getset_descriptor.__get__")) from nthP h13 11 rfl), (show PySem.W.takesIn K (.builtin "object.__class__") = some true from nthP h13 12 rfl), (show PySem.W.mroIn K (He.ga K "BadDeed") (.type "object") = some true from nthP h13 13 rfl)⟩
    y_BadDeed := ⟨⟨_, _, _, _, PySem.F.excBase_ValueError, PySem.F.store_ValueError, (nthB h14 0 rfl), (nthB h14 1 rfl)⟩, (show PySem.W.hasDictIn K (He.ga K "BadDeed") = true from nthP h13 6 rfl), (show PySem.W.findIn K (.ref (He.ga K "BadDeed")) "__setattr__" = some (some (.builtin "object.__setattr__")) from nthP h14 2 rfl), (show PySem.W.subIn K (.ref (He.ga K "BadDeed")) (.type "BaseException") = some true from nthP h13 7 rfl), (show PySem.W.typeIn K (.ref (He.ga K "BadDeed")) = some (.type "type") from nthP h14 3 rfl), (show PySem.W.keepIn K (.ref (He.ga K "BadDeed")) = true from nthP h13 14 rfl)⟩
    n_BadDeed_at := (show PySem.W.findIn K (.ref (He.ga K "BadDeed")) "at" = some none from nthP h14 4 rfl)
    k_BadLimit := PySem.W.mg_of X G (show PySem.W.nsIn K mainGlobals "BadLimit" = some (some (.ref (He.ga K "BadLimit"))) from nthP h14 5 rfl)
    ec_BadLimit := ⟨(show PySem.W.findIn K (.ref (He.ga K "BadLimit")) "__getattribute__" = some (some (.builtin "BaseException.__getattribute__")) from nthP h14 8 rfl), (show PySem.W.findIn K (.ref (He.ga K "BadLimit")) "__getattr__" = some none from nthP h14 9 rfl), (show PySem.W.subIn K (.ref (He.ga K "BadLimit")) (.type "BaseException") = some true from nthP h14 7 rfl), (show PySem.W.hasDictIn K (He.ga K "BadLimit") = true from nthP h14 6 rfl), (show PySem.W.findIn K (.ref (He.ga K "BadLimit")) "__class__" = some (some (.builtin "object.__class__")) from nthP h14 10 rfl), (show PySem.W.specialIn K (.builtin "object.__class__") "__get__" = some (some (.builtin "getset_descriptor.__get__")) from nthP h14 11 rfl), (show PySem.W.takesIn K (.builtin "object.__class__") = some true from nthP h14 12 rfl), (show PySem.W.mroIn K (He.ga K "BadLimit") (.type "object") = some true from nthP h14 13 rfl)⟩
    y_BadLimit := ⟨⟨_, _, _, _, PySem.F.excBase_ValueError, PySem.F.store_ValueError, (nthB h15 0 rfl), (nthB h15 1 rfl)⟩, (show PySem.W.hasDictIn K (He.ga K "BadLimit") = true from nthP h14 6 rfl), (show PySem.W.findIn K (.ref (He.ga K "BadLimit")) "__setattr__" = some (some (.builtin "object.__setattr__")) from nthP h15 2 rfl), (show PySem.W.subIn K (.ref (He.ga K "BadLimit")) (.type "BaseException") = some true from nthP h14 7 rfl), (show PySem.W.typeIn K (.ref (He.ga K "BadLimit")) = some (.type "type") from nthP h15 3 rfl), (show PySem.W.keepIn K (.ref (He.ga K "BadLimit")) = true from nthP h14 14 rfl)⟩
    n_BadLimit_value := (show PySem.W.findIn K (.ref (He.ga K "BadLimit")) "value" = some none from nthP h15 4 rfl)
    k_Far := PySem.W.mg_of X G (show PySem.W.nsIn K mainGlobals "Far" = some (some (.ref (He.ga K "Far"))) from nthP h15 5 rfl)
    ec_Far := ⟨(show PySem.W.findIn K (.ref (He.ga K "Far")) "__getattribute__" = some (some (.builtin "BaseException.__getattribute__")) from nthP h15 8 rfl), (show PySem.W.findIn K (.ref (He.ga K "Far")) "__getattr__" = some none from nthP h15 9 rfl), (show PySem.W.subIn K (.ref (He.ga K "Far")) (.type "BaseException") = some true from nthP h15 7 rfl), (show PySem.W.hasDictIn K (He.ga K "Far") = true from nthP h15 6 rfl), (show PySem.W.findIn K (.ref (He.ga K "Far")) "__class__" = some (some (.builtin "object.__class__")) from nthP h15 10 rfl), (show PySem.W.specialIn K (.builtin "object.__class__") "__get__" = some (some (.builtin "getset_descriptor.__get__")) from nthP h15 11 rfl), (show PySem.W.takesIn K (.builtin "object.__class__") = some true from nthP h15 12 rfl), (show PySem.W.mroIn K (He.ga K "Far") (.type "object") = some true from nthP h15 13 rfl)⟩
    y_Far := ⟨⟨_, _, _, _, PySem.F.excBase_ValueError, PySem.F.store_ValueError, (nthB h16 0 rfl), (nthB h16 1 rfl)⟩, (show PySem.W.hasDictIn K (He.ga K "Far") = true from nthP h15 6 rfl), (show PySem.W.findIn K (.ref (He.ga K "Far")) "__setattr__" = some (some (.builtin "object.__setattr__")) from nthP h16 2 rfl), (show PySem.W.subIn K (.ref (He.ga K "Far")) (.type "BaseException") = some true from nthP h15 7 rfl), (show PySem.W.typeIn K (.ref (He.ga K "Far")) = some (.type "type") from nthP h16 3 rfl), (show PySem.W.keepIn K (.ref (He.ga K "Far")) = true from nthP h15 14 rfl)⟩
    n_Far_steps := (show PySem.W.findIn K (.ref (He.ga K "Far")) "steps" = some none from nthP h16 4 rfl)
    k_Gap := PySem.W.mg_of X G (show PySem.W.nsIn K mainGlobals "Gap" = some (some (.ref (He.ga K "Gap"))) from nthP h16 5 rfl)
    ec_Gap := ⟨(show PySem.W.findIn K (.ref (He.ga K "Gap")) "__getattribute__" = some (some (.builtin "BaseException.__getattribute__")) from nthP h16 8 rfl), (show PySem.W.findIn K (.ref (He.ga K "Gap")) "__getattr__" = some none from nthP h16 9 rfl), (show PySem.W.subIn K (.ref (He.ga K "Gap")) (.type "BaseException") = some true from nthP h16 7 rfl), (show PySem.W.hasDictIn K (He.ga K "Gap") = true from nthP h16 6 rfl), (show PySem.W.findIn K (.ref (He.ga K "Gap")) "__class__" = some (some (.builtin "object.__class__")) from nthP h16 10 rfl), (show PySem.W.specialIn K (.builtin "object.__class__") "__get__" = some (some (.builtin "getset_descriptor.__get__")) from nthP h16 11 rfl), (show PySem.W.takesIn K (.builtin "object.__class__") = some true from nthP h16 12 rfl), (show PySem.W.mroIn K (He.ga K "Gap") (.type "object") = some true from nthP h16 13 rfl)⟩
    y_Gap := ⟨⟨_, _, _, _, PySem.F.excBase_RuntimeError, PySem.F.store_RuntimeError, (nthB h17 0 rfl), (nthB h17 1 rfl)⟩, (show PySem.W.hasDictIn K (He.ga K "Gap") = true from nthP h16 6 rfl), (show PySem.W.findIn K (.ref (He.ga K "Gap")) "__setattr__" = some (some (.builtin "object.__setattr__")) from nthP h17 2 rfl), (show PySem.W.subIn K (.ref (He.ga K "Gap")) (.type "BaseException") = some true from nthP h16 7 rfl), (show PySem.W.typeIn K (.ref (He.ga K "Gap")) = some (.type "type") from nthP h17 3 rfl), (show PySem.W.keepIn K (.ref (He.ga K "Gap")) = true from nthP h16 14 rfl)⟩
    n_Gap_name := (show PySem.W.findIn K (.ref (He.ga K "Gap")) "name" = some none from nthP h17 4 rfl)
    n_Gap_owner := (show PySem.W.findIn K (.ref (He.ga K "Gap")) "owner" = some none from nthP h17 5 rfl)
    n_Gap_key := (show PySem.W.findIn K (.ref (He.ga K "Gap")) "key" = some none from nthP h17 6 rfl)
    n_Gap_path := (show PySem.W.findIn K (.ref (He.ga K "Gap")) "path" = some none from nthP h17 7 rfl)
    k_Long := PySem.W.mg_of X G (show PySem.W.nsIn K mainGlobals "Long" = some (some (.ref (He.ga K "Long"))) from nthP h17 8 rfl)
    ec_Long := ⟨(show PySem.W.findIn K (.ref (He.ga K "Long")) "__getattribute__" = some (some (.builtin "BaseException.__getattribute__")) from nthP h17 11 rfl), (show PySem.W.findIn K (.ref (He.ga K "Long")) "__getattr__" = some none from nthP h17 12 rfl), (show PySem.W.subIn K (.ref (He.ga K "Long")) (.type "BaseException") = some true from nthP h17 10 rfl), (show PySem.W.hasDictIn K (He.ga K "Long") = true from nthP h17 9 rfl), (show PySem.W.findIn K (.ref (He.ga K "Long")) "__class__" = some (some (.builtin "object.__class__")) from nthP h17 13 rfl), (show PySem.W.specialIn K (.builtin "object.__class__") "__get__" = some (some (.builtin "getset_descriptor.__get__")) from nthP h17 14 rfl), (show PySem.W.takesIn K (.builtin "object.__class__") = some true from nthP h18 0 rfl), (show PySem.W.mroIn K (He.ga K "Long") (.type "object") = some true from nthP h18 1 rfl)⟩
    y_Long := ⟨⟨_, _, _, _, PySem.F.excBase_RuntimeError, PySem.F.store_RuntimeError, (nthB h18 3 rfl), (nthB h18 4 rfl)⟩, (show PySem.W.hasDictIn K (He.ga K "Long") = true from nthP h17 9 rfl), (show PySem.W.findIn K (.ref (He.ga K "Long")) "__setattr__" = some (some (.builtin "object.__setattr__")) from nthP h18 5 rfl), (show PySem.W.subIn K (.ref (He.ga K "Long")) (.type "BaseException") = some true from nthP h17 10 rfl), (show PySem.W.typeIn K (.ref (He.ga K "Long")) = some (.type "type") from nthP h18 6 rfl), (show PySem.W.keepIn K (.ref (He.ga K "Long")) = true from nthP h18 2 rfl)⟩
    n_Long_most := (show PySem.W.findIn K (.ref (He.ga K "Long")) "most" = some none from nthP h18 7 rfl)
    k_NoObject := PySem.W.mg_of X G (show PySem.W.nsIn K mainGlobals "NoObject" = some (some (.ref (He.ga K "NoObject"))) from nthP h18 8 rfl)
    ec_NoObject := ⟨(show PySem.W.findIn K (.ref (He.ga K "NoObject")) "__getattribute__" = some (some (.builtin "BaseException.__getattribute__")) from nthP h18 11 rfl), (show PySem.W.findIn K (.ref (He.ga K "NoObject")) "__getattr__" = some none from nthP h18 12 rfl), (show PySem.W.subIn K (.ref (He.ga K "NoObject")) (.type "BaseException") = some true from nthP h18 10 rfl), (show PySem.W.hasDictIn K (He.ga K "NoObject") = true from nthP h18 9 rfl), (show PySem.W.findIn K (.ref (He.ga K "NoObject")) "__class__" = some (some (.builtin "object.__class__")) from nthP h18 13 rfl), (show PySem.W.specialIn K (.builtin "object.__class__") "__get__" = some (some (.builtin "getset_descriptor.__get__")) from nthP h18 14 rfl), (show PySem.W.takesIn K (.builtin "object.__class__") = some true from nthP h19 0 rfl), (show PySem.W.mroIn K (He.ga K "NoObject") (.type "object") = some true from nthP h19 1 rfl)⟩
    q_NoObject := (nthB h19 3 rfl)
    p_NoObject := (show PySem.W.keepIn K (.ref (He.ga K "NoObject")) = true from nthP h19 2 rfl)
    k_NoEnd := PySem.W.mg_of X G (show PySem.W.nsIn K mainGlobals "NoEnd" = some (some (.ref (He.ga K "NoEnd"))) from nthP h19 4 rfl)
    ec_NoEnd := ⟨(show PySem.W.findIn K (.ref (He.ga K "NoEnd")) "__getattribute__" = some (some (.builtin "BaseException.__getattribute__")) from nthP h19 7 rfl), (show PySem.W.findIn K (.ref (He.ga K "NoEnd")) "__getattr__" = some none from nthP h19 8 rfl), (show PySem.W.subIn K (.ref (He.ga K "NoEnd")) (.type "BaseException") = some true from nthP h19 6 rfl), (show PySem.W.hasDictIn K (He.ga K "NoEnd") = true from nthP h19 5 rfl), (show PySem.W.findIn K (.ref (He.ga K "NoEnd")) "__class__" = some (some (.builtin "object.__class__")) from nthP h19 9 rfl), (show PySem.W.specialIn K (.builtin "object.__class__") "__get__" = some (some (.builtin "getset_descriptor.__get__")) from nthP h19 10 rfl), (show PySem.W.takesIn K (.builtin "object.__class__") = some true from nthP h19 11 rfl), (show PySem.W.mroIn K (He.ga K "NoEnd") (.type "object") = some true from nthP h19 12 rfl)⟩
    y_NoEnd := ⟨⟨_, _, _, _, PySem.F.excBase_LookupError, PySem.F.store_LookupError, (nthB h19 14 rfl), (nthB h20 0 rfl)⟩, (show PySem.W.hasDictIn K (He.ga K "NoEnd") = true from nthP h19 5 rfl), (show PySem.W.findIn K (.ref (He.ga K "NoEnd")) "__setattr__" = some (some (.builtin "object.__setattr__")) from nthP h20 1 rfl), (show PySem.W.subIn K (.ref (He.ga K "NoEnd")) (.type "BaseException") = some true from nthP h19 6 rfl), (show PySem.W.typeIn K (.ref (He.ga K "NoEnd")) = some (.type "type") from nthP h20 2 rfl), (show PySem.W.keepIn K (.ref (He.ga K "NoEnd")) = true from nthP h19 13 rfl)⟩
    n_NoEnd_end := (show PySem.W.findIn K (.ref (He.ga K "NoEnd")) "end" = some none from nthP h20 3 rfl)
    is_BadText := (nthB h20 4 rfl)
    is_TooMany := (nthB h20 5 rfl)
    is_Twice := (nthB h20 6 rfl)
    is_NoClass := (nthB h20 7 rfl)
    is_NoOrder := (nthB h20 8 rfl)
    is_NotABase := (nthB h20 9 rfl)
    is_Final := (nthB h20 10 rfl)
    is_NotChained := (nthB h20 11 rfl)
    is_NotLawful := (nthB h20 12 rfl)
    is_BadKey := (nthB h20 13 rfl)
    is_BadName := (nthB h20 14 rfl)
    is_BadOrder := (nthB h21 0 rfl)
    is_BadDeed := (nthB h21 1 rfl)
    is_BadLimit := (nthB h21 2 rfl)
    is_Far := (nthB h21 3 rfl)
    is_Gap := (nthB h21 4 rfl)
    is_Long := (nthB h21 5 rfl)
    is_NoObject := (nthB h21 6 rfl)
    is_NoEnd := (nthB h21 7 rfl)
    is_EarlyError := (nthB h21 8 rfl)
    is_ValueError := (nthB h21 9 rfl)
    is_RuntimeError := (nthB h21 10 rfl)
    is_LookupError := (nthB h21 11 rfl)
    em_Final_Final := (show PySem.W.exmOne K (.ref (He.ga K "Final")) (.ref (He.ga K "Final")) = some true from nthP h21 12 rfl)
    em_NotChained_Final := (show PySem.W.exmOne K (.ref (He.ga K "NotChained")) (.ref (He.ga K "Final")) = some false from nthP h21 13 rfl)
    em_NotChained_NotChained := (show PySem.W.exmOne K (.ref (He.ga K "NotChained")) (.ref (He.ga K "NotChained")) = some true from nthP h21 14 rfl)
    em_Gap_Final := (show PySem.W.exmOne K (.ref (He.ga K "Gap")) (.ref (He.ga K "Final")) = some false from nthP h22 0 rfl)
    em_Gap_NotChained := (show PySem.W.exmOne K (.ref (He.ga K "Gap")) (.ref (He.ga K "NotChained")) = some false from nthP h22 1 rfl)
    em_Gap_Gap := (show PySem.W.exmOne K (.ref (He.ga K "Gap")) (.ref (He.ga K "Gap")) = some true from nthP h22 2 rfl)
    em_NoEnd_Final := (show PySem.W.exmOne K (.ref (He.ga K "NoEnd")) (.ref (He.ga K "Final")) = some false from nthP h22 3 rfl)
    em_NoEnd_NotChained := (show PySem.W.exmOne K (.ref (He.ga K "NoEnd")) (.ref (He.ga K "NotChained")) = some false from nthP h22 4 rfl)
    em_NoEnd_Gap := (show PySem.W.exmOne K (.ref (He.ga K "NoEnd")) (.ref (He.ga K "Gap")) = some false from nthP h22 5 rfl)
    em_NoEnd_NoEnd := (show PySem.W.exmOne K (.ref (He.ga K "NoEnd")) (.ref (He.ga K "NoEnd")) = some true from nthP h22 6 rfl)
    d_BadText___init__ := by obtain ⟨fd, F⟩ := c.fun hd 0 (d := fn_BadText___init__) rfl; exact ⟨_, fd, (show PySem.W.findIn K (.ref (He.ga K "BadText")) "__init__" = some (some (.ref (He.fAd K ("BadText", some "__init__")))) from nthP h22 7 rfl), (show PySem.W.typeIn K (.ref (He.fAd K ("BadText", some "__init__"))) = some (.type "function") from nthP h22 8 rfl), F, F.binds fun _ _ _ _ _ _ us hl => match us, hl with | [_, _], _ => rfl⟩
    d_TooMany___init__ := by obtain ⟨fd, F⟩ := c.fun hd 1 (d := fn_TooMany___init__) rfl; exact ⟨_, fd, (show PySem.W.findIn K (.ref (He.ga K "TooMany")) "__init__" = some (some (.ref (He.fAd K ("TooMany", some "__init__")))) from nthP h22 9 rfl), (show PySem.W.typeIn K (.ref (He.fAd K ("TooMany", some "__init__"))) = some (.type "function") from nthP h22 10 rfl), F, F.binds fun _ _ _ _ _ _ us hl => match us, hl with | [_, _], _ => rfl⟩
    d_Twice___init__ := by obtain ⟨fd, F⟩ := c.fun hd 2 (d := fn_Twice___init__) rfl; exact ⟨_, fd, (show PySem.W.findIn K (.ref (He.ga K "Twice")) "__init__" = some (some (.ref (He.fAd K ("Twice", some "__init__")))) from nthP h22 11 rfl), (show PySem.W.typeIn K (.ref (He.fAd K ("Twice", some "__init__"))) = some (.type "function") from nthP h22 12 rfl), F, F.binds fun _ _ _ _ _ _ us hl => match us, hl with | [_, _], _ => rfl⟩
    d_NoClass___init__ := by obtain ⟨fd, F⟩ := c.fun hd 3 (d := fn_NoClass___init__) rfl; exact ⟨_, fd, (show PySem.W.findIn K (.ref (He.ga K "NoClass")) "__init__" = some (some (.ref (He.fAd K ("NoClass", some "__init__")))) from nthP h22 13 rfl), (show PySem.W.typeIn K (.ref (He.fAd K ("NoClass", some "__init__"))) = some (.type "function") from nthP h22 14 rfl), F, F.binds fun _ _ _ _ _ _ us hl => match us, hl with | [_, _], _ => rfl⟩
    d_NoOrder___init__ := by obtain ⟨fd, F⟩ := c.fun hd 4 (d := fn_NoOrder___init__) rfl; exact ⟨_, fd, (show PySem.W.findIn K (.ref (He.ga K "NoOrder")) "__init__" = some (some (.ref (He.fAd K ("NoOrder", some "__init__")))) from nthP h23 0 rfl), (show PySem.W.typeIn K (.ref (He.fAd K ("NoOrder", some "__init__"))) = some (.type "function") from nthP h23 1 rfl), F, F.binds fun _ _ _ _ _ _ us hl => match us, hl with | [_, _], _ => rfl⟩
    d_NotABase___init__ := by obtain ⟨fd, F⟩ := c.fun hd 5 (d := fn_NotABase___init__) rfl; exact ⟨_, fd, (show PySem.W.findIn K (.ref (He.ga K "NotABase")) "__init__" = some (some (.ref (He.fAd K ("NotABase", some "__init__")))) from nthP h23 2 rfl), (show PySem.W.typeIn K (.ref (He.fAd K ("NotABase", some "__init__"))) = some (.type "function") from nthP h23 3 rfl), F, F.binds fun _ _ _ _ _ _ us hl => match us, hl with | [_, _, _, _], _ => rfl⟩
    d_Final___init__ := by obtain ⟨fd, F⟩ := c.fun hd 6 (d := fn_Final___init__) rfl; exact ⟨_, fd, (show PySem.W.findIn K (.ref (He.ga K "Final")) "__init__" = some (some (.ref (He.fAd K ("Final", some "__init__")))) from nthP h23 4 rfl), (show PySem.W.typeIn K (.ref (He.fAd K ("Final", some "__init__"))) = some (.type "function") from nthP h23 5 rfl), F, F.binds fun _ _ _ _ _ _ us hl => match us, hl with | [_, _, _], _ => rfl⟩
    d_NotChained___init__ := by obtain ⟨fd, F⟩ := c.fun hd 7 (d := fn_NotChained___init__) rfl; exact ⟨_, fd, (show PySem.W.findIn K (.ref (He.ga K "NotChained")) "__init__" = some (some (.ref (He.fAd K ("NotChained", some "__init__")))) from nthP h23 6 rfl), (show PySem.W.typeIn K (.ref (He.fAd K ("NotChained", some "__init__"))) = some (.type "function") from nthP h23 7 rfl), F, F.binds fun _ _ _ _ _ _ us hl => match us, hl with | [_, _, _], _ => rfl⟩
    d_NotLawful___init__ := by obtain ⟨fd, F⟩ := c.fun hd 8 (d := fn_NotLawful___init__) rfl; exact ⟨_, fd, (show PySem.W.findIn K (.ref (He.ga K "NotLawful")) "__init__" = some (some (.ref (He.fAd K ("NotLawful", some "__init__")))) from nthP h23 8 rfl), (show PySem.W.typeIn K (.ref (He.fAd K ("NotLawful", some "__init__"))) = some (.type "function") from nthP h23 9 rfl), F, F.binds fun _ _ _ _ _ _ us hl => match us, hl with | [_, _, _, _], _ => rfl⟩
    d_BadKey___init__ := by obtain ⟨fd, F⟩ := c.fun hd 9 (d := fn_BadKey___init__) rfl; exact ⟨_, fd, (show PySem.W.findIn K (.ref (He.ga K "BadKey")) "__init__" = some (some (.ref (He.fAd K ("BadKey", some "__init__")))) from nthP h23 10 rfl), (show PySem.W.typeIn K (.ref (He.fAd K ("BadKey", some "__init__"))) = some (.type "function") from nthP h23 11 rfl), F, F.binds fun _ _ _ _ _ _ us hl => match us, hl with | [_, _], _ => rfl⟩
    d_BadName___init__ := by obtain ⟨fd, F⟩ := c.fun hd 10 (d := fn_BadName___init__) rfl; exact ⟨_, fd, (show PySem.W.findIn K (.ref (He.ga K "BadName")) "__init__" = some (some (.ref (He.fAd K ("BadName", some "__init__")))) from nthP h23 12 rfl), (show PySem.W.typeIn K (.ref (He.fAd K ("BadName", some "__init__"))) = some (.type "function") from nthP h23 13 rfl), F, F.binds fun _ _ _ _ _ _ us hl => match us, hl with | [_, _], _ => rfl⟩
    d_BadOrder___init__ := by obtain ⟨fd, F⟩ := c.fun hd 11 (d := fn_BadOrder___init__) rfl; exact ⟨_, fd, (show PySem.W.findIn K (.ref (He.ga K "BadOrder")) "__init__" = some (some (.ref (He.fAd K ("BadOrder", some "__init__")))) from nthP h23 14 rfl), (show PySem.W.typeIn K (.ref (He.fAd K ("BadOrder", some "__init__"))) = some (.type "function") from nthP h24 0 rfl), F, F.binds fun _ _ _ _ _ _ us hl => match us, hl with | [_, _], _ => rfl⟩
    d_BadDeed___init__ := by obtain ⟨fd, F⟩ := c.fun hd 12 (d := fn_BadDeed___init__) rfl; exact ⟨_, fd, (show PySem.W.findIn K (.ref (He.ga K "BadDeed")) "__init__" = some (some (.ref (He.fAd K ("BadDeed", some "__init__")))) from nthP h24 1 rfl), (show PySem.W.typeIn K (.ref (He.fAd K ("BadDeed", some "__init__"))) = some (.type "function") from nthP h24 2 rfl), F, F.binds fun _ _ _ _ _ _ us hl => match us, hl with | [_, _], _ => rfl⟩
    d_BadLimit___init__ := by obtain ⟨fd, F⟩ := c.fun hd 13 (d := fn_BadLimit___init__) rfl; exact ⟨_, fd, (show PySem.W.findIn K (.ref (He.ga K "BadLimit")) "__init__" = some (some (.ref (He.fAd K ("BadLimit", some "__init__")))) from nthP h24 3 rfl), (show PySem.W.typeIn K (.ref (He.fAd K ("BadLimit", some "__init__"))) = some (.type "function") from nthP h24 4 rfl), F, F.binds fun _ _ _ _ _ _ us hl => match us, hl with | [_, _], _ => rfl⟩
    d_Far___init__ := by obtain ⟨fd, F⟩ := c.fun hd 14 (d := fn_Far___init__) rfl; exact ⟨_, fd, (show PySem.W.findIn K (.ref (He.ga K "Far")) "__init__" = some (some (.ref (He.fAd K ("Far", some "__init__")))) from nthP h24 5 rfl), (show PySem.W.typeIn K (.ref (He.fAd K ("Far", some "__init__"))) = some (.type "function") from nthP h24 6 rfl), F, F.binds fun _ _ _ _ _ _ us hl => match us, hl with | [_, _], _ => rfl⟩
    d_Gap___init__ := by obtain ⟨fd, F⟩ := c.fun hd 15 (d := fn_Gap___init__) rfl; exact ⟨_, fd, (show PySem.W.findIn K (.ref (He.ga K "Gap")) "__init__" = some (some (.ref (He.fAd K ("Gap", some "__init__")))) from nthP h24 7 rfl), (show PySem.W.typeIn K (.ref (He.fAd K ("Gap", some "__init__"))) = some (.type "function") from nthP h24 8 rfl), F, F.binds fun _ _ _ _ _ _ us hl => match us, hl with | [_, _, _, _, _], _ => rfl⟩
    d_Long___init__ := by obtain ⟨fd, F⟩ := c.fun hd 16 (d := fn_Long___init__) rfl; exact ⟨_, fd, (show PySem.W.findIn K (.ref (He.ga K "Long")) "__init__" = some (some (.ref (He.fAd K ("Long", some "__init__")))) from nthP h24 9 rfl), (show PySem.W.typeIn K (.ref (He.fAd K ("Long", some "__init__"))) = some (.type "function") from nthP h24 10 rfl), F, F.binds fun _ _ _ _ _ _ us hl => match us, hl with | [_, _], _ => rfl⟩
    d_NoEnd___init__ := by obtain ⟨fd, F⟩ := c.fun hd 17 (d := fn_NoEnd___init__) rfl; exact ⟨_, fd, (show PySem.W.findIn K (.ref (He.ga K "NoEnd")) "__init__" = some (some (.ref (He.fAd K ("NoEnd", some "__init__")))) from nthP h24 11 rfl), (show PySem.W.typeIn K (.ref (He.fAd K ("NoEnd", some "__init__"))) = some (.type "function") from nthP h24 12 rfl), F, F.binds fun _ _ _ _ _ _ us hl => match us, hl with | [_, _], _ => rfl⟩
    d__law_bag := by obtain ⟨fd, F⟩ := c.fun hd 18 (d := fn__law_bag) rfl; exact ⟨_, fd, F, PySem.W.mg_of X G (show PySem.W.nsIn K mainGlobals "_law_bag" = some (some (.ref (He.ga K "_law_bag"))) from nthP h24 13 rfl), F.binds fun _ _ _ _ _ _ us hl => match us, hl with | [_, _], _ => rfl⟩
    d__law_draw := by obtain ⟨fd, F⟩ := c.fun hd 19 (d := fn__law_draw) rfl; exact ⟨_, fd, F, PySem.W.mg_of X G (show PySem.W.nsIn K mainGlobals "_law_draw" = some (some (.ref (He.ga K "_law_draw"))) from nthP h24 14 rfl), F.binds fun _ _ _ _ _ _ us hl => match us, hl with | [_, _], _ => rfl⟩
    d__law_value := by obtain ⟨fd, F⟩ := c.fun hd 20 (d := fn__law_value) rfl; exact ⟨_, fd, F, PySem.W.mg_of X G (show PySem.W.nsIn K mainGlobals "_law_value" = some (some (.ref (He.ga K "_law_value"))) from nthP h25 0 rfl), F.binds fun _ _ _ _ _ _ us hl => match us, hl with | [_], _ => rfl⟩
    d__law_kinds := by obtain ⟨fd, F⟩ := c.fun hd 21 (d := fn__law_kinds) rfl; exact ⟨_, fd, F, PySem.W.mg_of X G (show PySem.W.nsIn K mainGlobals "_law_kinds" = some (some (.ref (He.ga K "_law_kinds"))) from nthP h25 1 rfl), F.binds fun _ _ _ _ _ _ us hl => match us, hl with | [_], _ => rfl⟩
    d__law_raised := by obtain ⟨fd, F⟩ := c.fun hd 22 (d := fn__law_raised) rfl; exact ⟨_, fd, F, PySem.W.mg_of X G (show PySem.W.nsIn K mainGlobals "_law_raised" = some (some (.ref (He.ga K "_law_raised"))) from nthP h25 2 rfl), F.binds fun _ _ _ _ _ _ us hl => match us, hl with | [_, _, _, _, _], _ => rfl⟩
  }
  obtain ⟨fd, F4⟩ := c.fun hd 23 (d := fn_law) rfl
  obtain ⟨oc, od, kV, dc, pm, an, cd, ct, sl, e, lk, hc⟩ := F4.ex
  subst e
  exact ⟨_, fun s v => .of_eq rfl, fun base _ _ => ok_lawG F4 T⟩
theorem walk {l : PySem.W.OpenLaw} {q : Program} {loose : List Str} {XP : (Str → Option Value) → Heap → Prop} {d : DefRec} (hn : l.most = some 63) (hdf : d.params.defaults = []) (hd : d.name = "law") :
    PySem.W.WalkO q loose XP (hookK asL fns bsL).says l.row.toRowW d [] (fun f vs => PySem.call f vs) := by
  refine Att.attach_call (n := 63) hn hdf fun w s₀ s₁ mg mb fa o pm cd doc a vs ns G Y ho hd2 hcd hmg hobj hints hlen hg => ?_
  obtain ⟨K, KX, c⟩ := Y
  rw [hd] at hmg
  obtain ⟨fd, hb, hF⟩ := facts (l := l) (w := w) KX G.T.g hmg c
  exact call_G KX G.T.g G.T.b G.T.builtins G.T.nolimit hg hobj hints (Nat.le_trans hlen (by decide)) ⟨rfl, by decide, by decide⟩ hF hb fun H hS => ⟨a, ns, rfl, hS, hlen, fun _ => rfl⟩
end Kn
open PySem PySem.W PySem.Calls PyProof.Rows
set_option maxRecDepth 100000 in
set_option maxHeartbeats 0 in
theorem PySem.Challenge.cw_earlyfields_k15_errors_by_hand_holds : PySem.Challenge.rw_earlyfields_k15_errors_by_hand.Holds := by
  w_on; o_law
  refine HandSHeadRun.head_any (r := OpenLaw.row PySem.Challenge.rw_earlyfields_k15_errors_by_hand) (q := Kn.qq) (H := Kn.hookK Kn.asL Kn.fns Kn.bsL) (ob := Kn.obL) (M := 30000) (loose := Kn.loose) (d := HandSHeadRun.topDef (OpenLaw.row PySem.Challenge.rw_earlyfields_k15_errors_by_hand).prog 28) (kwd := []) Kn.obL_eq
    (by kernel_rfl) (fun s => by kernel_rfl) Kn.runL (by kernel_rfl) (by kernel_rfl) (by kernel_rfl) (by rfl) (by first | assumption | decide +kernel) (by decide +kernel) ⟨rfl, rfl, rfl, rfl, rfl, by decide +kernel⟩ ?hw ?hc
  case hw => w_witness2
  case hc => exact Kn.walk (l := PySem.Challenge.rw_earlyfields_k15_errors_by_hand) rfl (by kernel_rfl) (by kernel_rfl)
#print axioms PySem.Challenge.cw_earlyfields_k15_errors_by_hand_holds
