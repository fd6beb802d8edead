import PyProof.Rows.All
import Wide.All
import OpenK.AllK
import Wide.FinOn
import HandS.ForMost
import HandS.Wide
import HandS.IsInst
import HandS.Style
import HandS.Codes
import HandS.Walk
import PySem.Challenge.RW_earlyfields_k01_words_and_keys
set_option Elab.async false
set_option maxRecDepth 100000
set_option maxHeartbeats 4000000
namespace Kn
open PySem PySem.Spec PyProof.Rows L2
open C8 (Cal pe_c pe_gc)
open SX (S S_tl S_len S_cat)
def top (i : Nat) : Stmt := PySem.Challenge.pw_earlyfields_k01_words_and_keys.main.body.getD i (.Pass ⟨0, 0, 0, 0⟩)
abbrev s_fits_word : Stmt := (top 5)
theorem sc_fits_word : FnScope ["text"] ["text"] (defScope s_fits_word) := ⟨rfl, rfl, rfl, by decide +kernel, rfl, by decide +kernel, by decide +kernel⟩
abbrev s_all_small : Stmt := (top 6)
theorem sc_all_small : FnScope ["text", "character"] ["text"] (defScope s_all_small) := ⟨rfl, rfl, rfl, by decide +kernel, rfl, by decide +kernel, by decide +kernel⟩
abbrev s_fits_key : Stmt := (top 7)
theorem sc_fits_key : FnScope ["text", "parts"] ["text"] (defScope s_fits_key) := ⟨rfl, rfl, rfl, by decide +kernel, rfl, by decide +kernel, by decide +kernel⟩
abbrev s_is_word : Stmt := (top 9)
theorem sc_is_word : FnScope ["value"] ["value"] (defScope s_is_word) := ⟨rfl, rfl, rfl, by decide +kernel, rfl, by decide +kernel, by decide +kernel⟩
abbrev s_is_key : Stmt := (top 10)
theorem sc_is_key : FnScope ["value"] ["value"] (defScope s_is_key) := ⟨rfl, rfl, rfl, by decide +kernel, rfl, by decide +kernel, by decide +kernel⟩
abbrev s__law_bag : Stmt := (top 12)
theorem sc__law_bag : FnScope ["script", "at", "cell", "seed", "turn", "each"] ["script", "at"] (defScope s__law_bag) := ⟨rfl, rfl, rfl, by decide +kernel, rfl, by decide +kernel, by decide +kernel⟩
abbrev s__law_draw : Stmt := (top 13)
theorem sc__law_draw : FnScope ["bag", "many", "digit"] ["bag", "many"] (defScope s__law_draw) := ⟨rfl, rfl, rfl, by decide +kernel, rfl, by decide +kernel, by decide +kernel⟩
abbrev s__law_one : Stmt := (top 14)
theorem sc__law_one : FnScope ["bag", "some"] ["bag", "some"] (defScope s__law_one) := ⟨rfl, rfl, rfl, by decide +kernel, rfl, by decide +kernel, by decide +kernel⟩
abbrev s__law_reserved : Stmt := (top 15)
theorem sc__law_reserved : FnScope ["some", "more"] [] (defScope s__law_reserved) := ⟨rfl, rfl, rfl, by decide +kernel, rfl, by decide +kernel, by decide +kernel⟩
abbrev s__law_letters : Stmt := (top 16)
theorem sc__law_letters : FnScope ["bag", "found", "turn"] ["bag"] (defScope s__law_letters) := ⟨rfl, rfl, rfl, by decide +kernel, rfl, by decide +kernel, by decide +kernel⟩
abbrev s__law_some : Stmt := (top 17)
theorem sc__law_some : FnScope ["bag", "kind", "text", "at"] ["bag"] (defScope s__law_some) := ⟨rfl, rfl, rfl, by decide +kernel, rfl, by decide +kernel, by decide +kernel⟩
abbrev s__law_is_word : Stmt := (top 18)
theorem sc__law_is_word : FnScope ["text", "odd", "sign"] ["text"] (defScope s__law_is_word) := ⟨rfl, rfl, rfl, by decide +kernel, rfl, by decide +kernel, by decide +kernel⟩
abbrev s__law_is_key : Stmt := (top 19)
theorem sc__law_is_key : FnScope ["text", "heads", "head"] ["text"] (defScope s__law_is_key) := ⟨rfl, rfl, rfl, by decide +kernel, rfl, by decide +kernel, by decide +kernel⟩
abbrev s_law : Stmt := (top 20)
theorem sc_law : FnScope ["script", "odd", "value", "at", "bag", "turn", "text", "heads", "key", "each", "found"] ["script"] (defScope s_law) := ⟨rfl, rfl, rfl, by decide +kernel, rfl, by decide +kernel, by decide +kernel⟩
/-! ### 0. common words of our own -/
/-- a def of the module behind the top, under its name -/
structure Dfn (K : PySem.W.Frag) (mg : Str → Option Value) (x : Str) (st : Stmt) (ps : List Str) : Prop where
  ex : ∃ (f : Addr) (fd : FuncData), Fun K x x st f fd ∧ mg x = some (.ref f) ∧ Binds K fd ps []
theorem vals_of_abs : ∀ (us : List Value) (vs : List V), us.map absV = vs.map some → Vals vs us
  | [], [], _ => .nil
  | [], _ :: _, h => by cases h
  | _ :: _, [], h => by cases h
  | u :: us, v :: vs, h => by
    rw [List.map_cons, List.map_cons] at h
    injection h with h1 h2
    refine .cons ?_ (vals_of_abs us vs h2)
    cases u <;> first | (cases h1; rfl) | (cases h1; exact ⟨_, rfl⟩) | cases h1
section
variable {P : Program} {w : World} {K : PySem.W.Frag} {mg : Str → Option Value} {base : Heap}
theorem cal_of {x : Str} {st : Stmt} {N ps : List Str} {k : Nat} {sp : Sp} (D : Dfn K mg x st ps) (S : FnScope N ps (defScope st)) (len : ∀ vs H Q E, sp vs H Q E → vs.length = ps.length)
    (hbody : ∀ (f : Addr) (cdv : Value) (A : Around) (outer : List Env) (s : Shared) (H : Hp) (vs : List V) (Q : VK) (E : XK), Room k (A.deeper (envOfC x (defScope st) s.heap.objs.size f cdv)) → sp vs H Q E →
      ∃ t, PSs (cxOf CX0 P w K mg base N x (defScope st) f cdv A outer s H E).nox (defBody st) t ∧ t { nx := fun _ H' => Q .non H', rt := Q } (start N vs) H) : C8.Cal P w K mg base (k + 1) x sp [] := by
  obtain ⟨f, fd, F, hm, b⟩ := D.ex
  exact ⟨f, fd, ps, [], F.ok S len fun cdv A outer s H vs Q E hr h => hbody f cdv A outer s H vs Q E hr h, hm, F.kp, b, .nil⟩
end
section
variable {X : Cx} {k j : Nat} {x : Str} {sp : Sp} {p pos : Pos}
/-- f() -/
theorem pe_c0 {dvs : List V} (c : C8.Cal X.prog X.w X.K X.mg X.base k x sp dvs) (hr : Room j X.A) (hk : k ≤ j) (hg : Gl X x) (hdb : (x == ("__debug__" : Str)) = false := by decide) :
    PE X (.Call (.Name x p) [] [] pos) (tCall sp dvs E0 tNil) := by
  obtain ⟨f, fd, ps, ds, F, hm, kp, b, d⟩ := c.ex
  exact pe_call0 F (hr.mono hk) hg hm kp b d pass0 hdb
end
/-- within a comprehension the written part is said, for its own context is not known outside -/
theorem bmK {X : Cx} {K : PySem.W.Frag} {e : Expr} {to : TE} {t : TA} {T : String} {r : V → List V → Hp → VK → Prop} (hK : X.K = K) (h : PE X e (tBM X.K T r to t)) : PE X e (tBM K T r to t) := hK ▸ h

def L_HEADS : List V := [.str "method", .str "getter", .str "setter"]
def L_RESERVED : List V := [.str "class", .str "shared", .str "promise", .str "value", .str "init", .str "method", .str "getter", .str "setter", .str "chained", .str "final", .str "set", .str "keep", .str "read", .str "look", .str "call", .str "super", .str "of", .str "make", .str "fail", .str "try", .str "catch", .str "if", .str "else", .str "either", .str "or", .str "loop"]
structure Txt (K : PySem.W.Frag) (mg : Str → Option Value) (C_HEADS : Addr) (C_RESERVED : Addr) : Prop where
  b_abs : mg "abs" = none
  b_bool : mg "bool" = none
  b_enumerate : mg "enumerate" = none
  b_int : mg "int" = none
  b_isinstance : mg "isinstance" = none
  b_len : mg "len" = none
  b_max : mg "max" = none
  b_min : mg "min" = none
  b_range : mg "range" = none
  b_str : mg "str" = none
  g_HEADS : ∃ u, mg "HEADS" = some u ∧ RelV (.ref C_HEADS) u
  t_HEADS : ∀ H : Hp, SqT K H C_HEADS L_HEADS
  g_LONGEST : ∃ u, mg "LONGEST" = some u ∧ RelV (.int 8) u
  g_RESERVED : ∃ u, mg "RESERVED" = some u ∧ RelV (.ref C_RESERVED) u
  t_RESERVED : ∀ H : Hp, SqT K H C_RESERVED L_RESERVED
  g_SMALL : ∃ u, mg "SMALL" = some u ∧ RelV (.str "abcdefghijklmnopqrstuvwxyz") u
  d_fits_word : Dfn K mg "fits_word" s_fits_word ["text"]
  d_all_small : Dfn K mg "all_small" s_all_small ["text"]
  d_fits_key : Dfn K mg "fits_key" s_fits_key ["text"]
  d_is_word : Dfn K mg "is_word" s_is_word ["value"]
  d_is_key : Dfn K mg "is_key" s_is_key ["value"]
  d__law_bag : Dfn K mg "_law_bag" s__law_bag ["script", "at"]
  d__law_draw : Dfn K mg "_law_draw" s__law_draw ["bag", "many"]
  d__law_one : Dfn K mg "_law_one" s__law_one ["bag", "some"]
  d__law_reserved : Dfn K mg "_law_reserved" s__law_reserved []
  d__law_letters : Dfn K mg "_law_letters" s__law_letters ["bag"]
  d__law_some : Dfn K mg "_law_some" s__law_some ["bag"]
  d__law_is_word : Dfn K mg "_law_is_word" s__law_is_word ["text"]
  d__law_is_key : Dfn K mg "_law_is_key" s__law_is_key ["text"]
/-! ### 1. heaps: what stays, but for one bag -/
def Upto (b : Addr) (H H' : Hp) : Prop := ∀ c o, c ≠ b → H c = some o → H' c = some o
def BagAt (H : Hp) (b : Addr) : Prop := ∃ x y : Int, 0 ≤ x ∧ H b = some (.lst [.int x, .int y])
theorem Upto.refl (b : Addr) (H : Hp) : Upto b H H := fun _ _ _ e => e
theorem Upto.trans {b : Addr} {H H1 H2 : Hp} (u : Upto b H H1) (v : Upto b H1 H2) : Upto b H H2 := fun c o hc e => v c o hc (u c o hc e)
theorem Upto.of {b : Addr} {H H1 : Hp} (u : Same H H1) : Upto b H H1 := fun c o _ e => u c o e
theorem Upto.at {b : Addr} {H : Hp} {o : HO} : Upto b H (upd H b o) := fun c u hc e => by rw [upd_ne hc]; exact e
theorem Same.new {H : Hp} {p : Addr} {o : HO} (h : H p = none) : Same H (upd H p o) := fun c u e => by rw [upd_ne (ne_of_none e h)]; exact e
theorem Upto.new {b : Addr} {H : Hp} {p : Addr} {o : HO} (h : H p = none) : Upto b H (upd H p o) := Upto.of (Same.new h)
theorem Upto.same {b : Addr} {H0 H H' : Hp} (n : H0 b = none) (a : Same H0 H) (u : Upto b H H') : Same H0 H' := fun c o e => u c o (ne_of_none e n) (a c o e)
theorem BagAt.same {b : Addr} {H H' : Hp} (h : BagAt H b) (u : Same H H') : BagAt H' b := by
  obtain ⟨x, y, hx, e⟩ := h
  exact ⟨x, y, hx, u _ _ e⟩
theorem sz {n : Nat} (h : n ≤ 100000) : n ≤ sizeLine := Nat.le_trans h (by decide)
theorem szl {a : List Nat} (h : a.length ≤ 100000) : (S a).length ≤ sizeLine := by rw [S_len]; exact sz h
theorem cutV_mem {xs : List V} {lo hi : Option Int} {v : V} (h : v ∈ cutV xs lo hi) : v ∈ xs := List.mem_of_mem_drop (List.mem_of_mem_take h)
theorem map_at {ns : List Int} {i : Int} (h0 : 0 ≤ i) (h : i < ((ns.map V.int).length : Int)) : ∃ c, atI (ns.map V.int) i = some (V.int c) := by
  have hl : i.toNat < ns.length := by rw [List.length_map] at h; omega
  obtain ⟨j, rfl⟩ : ∃ j : Nat, i = (j : Int) := ⟨i.toNat, by omega⟩
  exact ⟨ns[j], atI_nat (by simp [show j < ns.length by omega])⟩
/-! ### 2. the draws of the law -/
section
variable {P : Program} {w : World} {K : PySem.W.Frag} {mg : Str → Option Value} {base : Heap} {C_HEADS C_RESERVED : Addr}
def spBag (K : PySem.W.Frag) : Sp := fun vs H Q _ => ∃ (a : Addr) (ns : List Int) (i : Int), vs = [.ref a, .int i] ∧ SqL K H a (ns.map V.int) ∧ 0 ≤ i ∧
  ∀ p H', H p = none → Same H H' → BagAt H' p → Q (.ref p) H'
theorem c__law_bag (T : Txt K mg C_HEADS C_RESERVED) : Cal P w K mg base 1 "_law_bag" (spBag K) [] := by
  refine cal_of T.d__law_bag sc__law_bag (fun vs H Q E h => ?_) (fun f cdv A outer s H vs Q E hr h => ?_)
  · obtain ⟨a, ns, i, rfl, _⟩ := h
    rfl
  · obtain ⟨a, ns, i, rfl, hS, i0, k⟩ := h
    refine ⟨_, (C8.pss_cut (ps_set (i := 2) sc__law_bag.nd rfl (by first | exact Or.inl rfl | exact Or.inr rfl) (pe_ifExp (pt_cmpR op_lt (pv 1) (pe_callB call_len_seq (by rfl) T.b_len (by decide +kernel) (pa_cons (pv 0) pa_nil)) (nomark _)) (pe_ix ix_list (pv 0) (pv 1) (fun _ _ => rfl)) pe_int))
      (pss_cons (ps_set (i := 3) sc__law_bag.nd rfl (by first | exact Or.inl rfl | exact Or.inr rfl) (pe_op op_add (pe_op op_mul pe_int (pv 1)) pe_int))
      (pss_cons (ps_for PassesOwn.never rfl (pi_enum rfl T.b_enumerate (pa_cons (pe_slice sl_list (pv 0) po_none (po_some pe_int)) pa_nil)) (pg_tup (by rfl) (pgs_cons (pg_name (i := 4) sc__law_bag.nd rfl (by first | exact Or.inl rfl | exact Or.inr rfl)) (pgs_cons (pg_name (i := 5) sc__law_bag.nd rfl (by first | exact Or.inl rfl | exact Or.inr rfl)) pgs_nil))) (pss_one (ps_set (i := 3) sc__law_bag.nd rfl (by first | exact Or.inl rfl | exact Or.inr rfl) (pe_op op_mod (pe_callTy call_int1 (by rfl) T.b_int (by decide +kernel) (pa_cons (pe_op op_add (pe_op op_add (pe_op op_mul (pv 3) pe_int) (pe_op op_mod (pe_callTy call_int1 (by rfl) T.b_int (by decide +kernel) (pa_cons (pv 5) pa_nil)) pe_int)) (pe_op op_mul pe_int (pv 4))) pa_nil)) pe_int))))
      (pss_one (ps_ret (pe_lst (pa_cons (pe_ifExp (pt_cmpR op_ge (pe_callB call_abs (by rfl) T.b_abs (by decide +kernel) (pa_cons (pv 2) pa_nil)) (pe_op op_pow pe_int pe_int) (nomark _)) (pe_callB call_abs (by rfl) T.b_abs (by decide +kernel) (pa_cons (pv 2) pa_nil)) pe_int) (pa_cons (pv 3) pa_nil)))))))), ?_⟩
    -- cell = script[at] if at < len(script) else 0
    refine ⟨fun σ' H' => H' = H ∧ ∃ c : Int, σ' = [some (.ref a), some (.int i), some (.int c), none, none, none], ?_, ?_⟩
    · refine ⟨_, rfl, _, rfl, a, _, rfl, .inl hS, _, _, rfl, rfl, _, rfl, ?_⟩
      refine ite2 (fun h1 => ?_) (fun h1 => ?_)
      · obtain ⟨c, hc⟩ := map_at i0 (of_decide_eq_true h1)
        exact ⟨_, rfl, _, rfl, a, _, i, _, rfl, rfl, hS, hc, rfl, c, rfl⟩
      · exact ⟨rfl, 0, rfl⟩
    rintro σ' H' ⟨rfl, c, rfl⟩
    -- seed = 6151 * at + 389
    refine ⟨_, rfl, _, _, rfl, rfl, .inl ⟨by decide, by decide⟩, _, _, rfl, rfl, ?_⟩
    -- for turn, each in enumerate(script[:63])
    refine ⟨_, rfl, 63, rfl, a, _, rfl, hS, fun p hp => ?_⟩
    refine ⟨p, _, rfl, SqL.of upd_same, for_it walk_enum (fun j σ H2 => ∃ (z : Int) (u v : Option V), σ = [some (.ref a), some (.int i), some (.int c), some (.int z), u, v] ∧ Same H' H2 ∧ H2 p = some (.lst (cutV (ns.map V.int) none (some 63))))
      ⟨_, none, none, rfl, Same.new hp, upd_same⟩ (fun _ _ _ _ ⟨_, _, _, _, _, e⟩ => SqL.of e) ?_ ?_⟩
    · rintro j x σ H2 H3 hj ⟨z, u, v, rfl, s2, e2⟩ ⟨T0, x1, x2, rfl, hT, rfl, q1, q2⟩
      cases q1
      obtain ⟨n, hn, rfl⟩ : ∃ n, n ∈ ns ∧ V.int n = x2 := List.mem_map.mp (cutV_mem (List.mem_of_getElem? q2))
      refine ⟨T0, _, rfl, SqT.of upd_same, rfl, _, _, rfl, _, _, rfl, rfl, ?_⟩
      refine ⟨_, rfl, _, _, rfl, rfl, .inr ⟨by decide, by decide⟩, _, rfl, .inl ⟨_, rfl, _, _, rfl, rfl, (by show (0 : Int) < 2147483579; decide), _, _, rfl, rfl, _, rfl, _, _, rfl, rfl, .inl ⟨by decide, by decide⟩, _, _, rfl, rfl, .inl ⟨_, rfl, _, _, rfl, rfl, (by show (0 : Int) < 2147483423; decide), ?_⟩⟩⟩
      exact ⟨_, _, _, rfl, s2.trans (Same.new hT), by rw [upd_ne (ne_of_none e2 hT)]; exact e2⟩
    -- return [abs(cell) if abs(cell) >= 10 ** 18 else 0, seed]
    rintro σ H2 ⟨z, u, v, rfl, s2, e2⟩
    refine ⟨_, rfl, _, rfl, 10, 18, rfl, rfl, ⟨by decide, by decide, by decide⟩, _, _, rfl, rfl, _, rfl, ?_⟩
    have ab : (0 : Int) ≤ if c < 0 then -c else c := by split <;> omega
    refine ite2 (fun _ => ?_) (fun _ => ?_)
    · refine ⟨_, rfl, _, rfl, _, rfl, (by show 2 ≤ sizeLine; decide), fun q hq => ?_⟩
      exact k q _ (s2.free hq) (s2.trans (Same.new hq)) ⟨_, _, ab, upd_same⟩
    · refine ⟨_, rfl, (by show 2 ≤ sizeLine; decide), fun q hq => ?_⟩
      exact k q _ (s2.free hq) (s2.trans (Same.new hq)) ⟨_, _, Int.le_refl 0, upd_same⟩

def spDraw : Sp := fun vs H Q _ => ∃ (b : Addr) (m : Int), vs = [.ref b, .int m] ∧ BagAt H b ∧ 0 < m ∧ m.natAbs < 2 ^ 9000 ∧
  ∀ (d : Int) H', 0 ≤ d → d < m → Upto b H H' → BagAt H' b → Q (.int d) H'
theorem c__law_draw (T : Txt K mg C_HEADS C_RESERVED) : Cal P w K mg base 1 "_law_draw" spDraw [] := by
  refine cal_of T.d__law_draw sc__law_draw (fun vs H Q E h => ?_) (fun f cdv A outer s H vs Q E hr h => ?_)
  · obtain ⟨b, m, rfl, _⟩ := h
    rfl
  · obtain ⟨b, m, rfl, ⟨x, y, hx, hb⟩, m0, m1, k⟩ := h
    have wd : CDivW x m := wide_div m0 m1 (by decide) (by decide)
    have w13 : ∀ z : Int, CDivW z 13 := fun z => wide_div (b := 4) (by decide) (by decide) (by decide) (by decide)
    have w32 : ∀ z : Int, CDivW z 32 := fun z => wide_div (b := 6) (by decide) (by decide) (by decide) (by decide)
    refine ⟨_, (pss_cons (ps_if (pt_cmpR op_gt (pe_ix ix_list (pv 0) pe_int (fun _ _ => rfl)) pe_int (nomark _)) (pss_cons (ps_set (i := 2) sc__law_draw.nd rfl (by first | exact Or.inl rfl | exact Or.inr rfl) (pe_op op_mod (pe_callTy call_int1 (by rfl) T.b_int (by decide +kernel) (pa_cons (pe_ix ix_list (pv 0) pe_int (fun _ _ => rfl)) pa_nil)) (pv 1)))
      (pss_cons (ps_asg (pe_op op_fdivW (pe_ix ix_list (pv 0) pe_int (fun _ _ => rfl)) (pv 1)) (pg_sub (pv 0) pe_int set_list))
      (pss_one (ps_ret (pv 2))))) pss_nil)
      (pss_cons (ps_asg (pe_op op_mod (pe_callTy call_int1 (by rfl) T.b_int (by decide +kernel) (pa_cons (pe_op op_add (pe_op op_mul (pe_ix ix_list (pv 0) pe_int (fun _ _ => rfl)) pe_int) pe_int) pa_nil)) pe_int) (pg_sub (pv 0) pe_int set_list))
      (pss_one (ps_ret (pe_op op_mod (pe_op op_fdivW (pe_op op_mod (pe_callTy call_int1 (by rfl) T.b_int (by decide +kernel) (pa_cons (pe_op op_mul (pe_op op_fdivW (pe_ix ix_list (pv 0) pe_int (fun _ _ => rfl)) pe_int) pe_int) pa_nil)) pe_int) pe_int) (pv 1)))))), ?_⟩
    refine ⟨_, rfl, b, _, 0, _, rfl, rfl, SqL.of hb, rfl, _, _, rfl, rfl, _, rfl, ?_⟩
    refine ite2 (fun h1 => ?_) (fun h1 => ?_)
    · refine ⟨_, rfl, b, _, 0, _, rfl, rfl, SqL.of hb, rfl, .inl ⟨_, rfl, _, rfl, _, _, rfl, rfl, m0, ?_⟩⟩
      refine ⟨_, rfl, b, _, 0, _, rfl, rfl, SqL.of hb, rfl, _, rfl, _, _, rfl, rfl, wd, _, rfl, b, _, _, 0, rfl, rfl, hb, rfl, ?_⟩
      refine ⟨_, rfl, ?_⟩
      refine k _ _ (Int.emod_nonneg _ (by omega)) (Int.emod_lt_of_pos _ m0) Upto.at ⟨_, _, ?_, upd_same⟩
      exact Int.ediv_nonneg hx (by omega)
    · refine ⟨_, rfl, b, _, 1, _, rfl, rfl, SqL.of hb, rfl, _, _, rfl, rfl, .inr ⟨by decide, by decide⟩, _, _, rfl, rfl, .inl ⟨_, rfl, _, _, rfl, rfl, (by show (0 : Int) < 2147483647; decide), _, rfl, b, _, _, 1, rfl, rfl, hb, rfl, ?_⟩⟩
      refine ⟨_, rfl, b, _, 1, _, rfl, rfl, SqL.of upd_same, rfl, _, _, rfl, rfl, w13 _, _, _, rfl, rfl, .inr ⟨by decide, by decide⟩, .inl ⟨_, rfl, _, _, rfl, rfl, (by show (0 : Int) < 2147483629; decide), _, _, rfl, rfl, w32 _, _, rfl, _, _, rfl, rfl, m0, ?_⟩⟩
      exact k _ _ (Int.emod_nonneg _ (by omega)) (Int.emod_lt_of_pos _ m0) Upto.at ⟨_, _, hx, upd_same⟩

/-- some[draw]: a value of the list -/
def spOne (K : PySem.W.Frag) : Sp := fun vs H Q _ => ∃ (b l : Addr) (xs : List V), vs = [.ref b, .ref l] ∧ BagAt H b ∧ l ≠ b ∧ H l = some (.lst xs) ∧ 0 < xs.length ∧ xs.length ≤ 100000 ∧
  ∀ (v : V) H', v ∈ xs → Upto b H H' → BagAt H' b → Q v H'
theorem c__law_one (T : Txt K mg C_HEADS C_RESERVED) : Cal P w K mg base 2 "_law_one" (spOne K) [] := by
  have c__law_draw : Cal P w K mg base 1 "_law_draw" spDraw [] := c__law_draw T
  refine cal_of T.d__law_one sc__law_one (fun vs H Q E h => ?_) (fun f cdv A outer s H vs Q E hr h => ?_)
  · obtain ⟨b, l, xs, rfl, _⟩ := h
    rfl
  · obtain ⟨b, l, xs, rfl, B, hlb, hl, l0, l1, k⟩ := h
    refine ⟨_, (pss_one (ps_ret (pe_ix ix_list (pv 1) (pe_c c__law_draw hr (by decide) rfl (pa_cons (pv 0) (pa_cons (pe_callB call_len_seq (by rfl) T.b_len (by decide +kernel) (pa_cons (pv 1) pa_nil)) pa_nil))) (fun _ _ => rfl)))), ?_⟩
    refine ⟨_, rfl, _, rfl, _, rfl, l, xs, rfl, .inl (SqL.of hl), b, _, rfl, B, by omega, Nat.lt_of_le_of_lt (by rw [Int.natAbs_natCast]; exact l1) (by decide +kernel : 100000 < 2 ^ 9000), fun d H' d0 d1 u B' => ?_⟩
    have hd : d.toNat < xs.length := by omega
    have e : atI xs d = some xs[d.toNat] := by
      have e : d = ((d.toNat : Nat) : Int) := by omega
      conv => lhs; rw [e]
      exact atI_nat (by simp [hd])
    exact ⟨l, xs, d, _, rfl, rfl, SqL.of (u l _ hlb hl), e, k _ _ (List.getElem_mem hd) u B'⟩
end

/-! ### 3. words and keys: the program -/
def smallC (c : Nat) : Bool := decide (c ∈ ("abcdefghijklmnopqrstuvwxyz" : Str).cps.toList)
def smallL (a : List Nat) : Bool := a.all smallC
def resV : List V := [.str "class", .str "shared", .str "promise", .str "value", .str "init", .str "method", .str "getter", .str "setter", .str "chained", .str "final", .str "set", .str "keep", .str "read", .str "look", .str "call", .str "super", .str "of", .str "make", .str "fail", .str "try", .str "catch", .str "if", .str "else", .str "either", .str "or", .str "loop"]
def headV : List V := [.str "method", .str "getter", .str "setter"]
def wordL (a : List Nat) : Bool := decide (1 ≤ (a.length : Int)) && (decide ((a.length : Int) ≤ 8) && (smallL a && !inV (.str (S a)) resV))
def part0 (a : List Nat) : Str := (Txt.partition (S a) " ").1
def part2 (a : List Nat) : Str := (Txt.partition (S a) " ").2.2
def keyL (a : List Nat) : Bool := decide (V.str (S a) = .str "init") || (inV (.str (part0 a)) headV && wordL (part2 a).cps.toList)
theorem part2_le (a : List Nat) : (part2 a).cps.toList.length ≤ a.length := by
  have h := congrArg Str.length (StrLaws.partition_sum (S a) " ")
  rw [Str.length_append, Str.length_append, S_len a] at h
  have e : (part2 a).cps.toList.length = (Txt.partition (S a) " ").2.2.length := by rw [Array.length_toList]; rfl
  omega
theorem smallL_take {a : List Nat} {i : Nat} {c : Nat} (h : a[i]? = some c) (s : smallL (a.take i) = true) (hc : smallC c = true) : smallL (a.take (i + 1)) = true := by
  unfold smallL at s ⊢
  rw [List.take_add_one, List.all_append, s, h]
  simp [hc]
theorem smallL_no {a : List Nat} {i : Nat} {c : Nat} (h : a[i]? = some c) (hc : smallC c = false) : smallL a = false := by
  cases e : smallL a with
  | false => rfl
  | true =>
    have := List.all_eq_true.mp e c (List.mem_of_getElem? h)
    rw [hc] at this
    cases this
section
variable {P : Program} {w : World} {K : PySem.W.Frag} {mg : Str → Option Value} {base : Heap} {C_HEADS C_RESERVED : Addr}
def spSmall : Sp := fun vs H Q _ => ∃ a, vs = [.str (S a)] ∧ ∀ H', Same H H' → Q (.bl (smallL a)) H'
theorem c_all_small (T : Txt K mg C_HEADS C_RESERVED) : Cal P w K mg base 1 "all_small" spSmall [] := by
  refine cal_of T.d_all_small sc_all_small (fun vs H Q E h => ?_) (fun f cdv A outer s H vs Q E hr h => ?_)
  · obtain ⟨a, rfl, _⟩ := h
    rfl
  · obtain ⟨a, rfl, k⟩ := h
    refine ⟨_, (pss_cons (ps_for PassesOwn.never rfl (pi_str (pv 0)) (pg_name (i := 1) sc_all_small.nd rfl (by first | exact Or.inl rfl | exact Or.inr rfl)) (pss_one (ps_if (pt_cmpR op_notIn_sign (pv 1) (pe_gc rfl T.g_SMALL) (by rfl)) (pss_one (ps_ret pe_bl)) pss_nil)))
      (pss_one (ps_ret pe_bl))), ?_⟩
    refine ⟨_, rfl, S a, rfl, for_it walk_str (fun i σ H1 => (∃ v, σ = [some (.str (S a)), v]) ∧ H1 = H ∧ smallL (a.take i) = true) ⟨⟨none, rfl⟩, rfl, rfl⟩ (fun _ _ _ _ _ => trivial) ?_ ?_⟩
    · rintro i x σ H1 H2 hi ⟨⟨v, rfl⟩, rfl, hs⟩ ⟨rfl, c, hc, rfl⟩
      have hc' : a[i]? = some c := by simpa using hc
      refine ⟨_, rfl, c, _, rfl, rfl, _, rfl, ?_⟩
      refine ite2 (fun h1 => ?_) (fun h1 => ?_)
      · have hf : smallC c = false := by simpa [smallC] using h1
        have := k H2 (Same.refl _)
        rw [smallL_no hc' hf] at this
        exact this
      · have hf : smallC c = true := by simpa [smallC] using h1
        exact ⟨⟨_, rfl⟩, rfl, smallL_take hc' hs hf⟩
    · rintro σ H1 ⟨⟨v, rfl⟩, rfl, hs⟩
      have := k H1 (Same.refl _)
      rw [show smallL a = true by rw [← hs]; simp] at this
      exact this

def spWord : Sp := fun vs H Q _ => ∃ a, vs = [.str (S a)] ∧ a.length ≤ 100000 ∧ ∀ H', Same H H' → Q (.bl (wordL a)) H'
theorem c_fits_word (T : Txt K mg C_HEADS C_RESERVED) : Cal P w K mg base 2 "fits_word" spWord [] := by
  have c_all_small : Cal P w K mg base 1 "all_small" spSmall [] := c_all_small T
  refine cal_of T.d_fits_word sc_fits_word (fun vs H Q E h => ?_) (fun f cdv A outer s H vs Q E hr h => ?_)
  · obtain ⟨a, rfl, _⟩ := h
    rfl
  · obtain ⟨a, rfl, hl, k⟩ := h
    have k' : ∀ b H', Same H H' → wordL a = b → Q (.bl b) H' := fun b H' e h => h ▸ k H' e
    refine ⟨_, (pss_one (ps_ret (pe_and (pe_chain op_le op_le pe_int (pe_callB call_len_str (by rfl) T.b_len (by decide +kernel) (pa_cons (pv 0) pa_nil)) (pe_gc rfl T.g_LONGEST)) (pe_and (pe_c c_all_small hr (by decide) rfl (pa_cons (pv 0) pa_nil)) (pe_one (pe_cmpR op_notIn_seq (pv 0) (pe_gc rfl T.g_RESERVED) (by with_unfolding_all rfl))))))), ?_⟩
    refine ⟨_, rfl, S a, rfl, szl hl, _, _, rfl, rfl, _, rfl, ?_⟩
    rw [S_len]
    refine ite2 (fun h1 => ?_) (fun h1 => ?_)
    · refine ⟨_, _, rfl, rfl, _, rfl, ?_⟩
      refine ite2 (fun h2 => ?_) (fun h2 => ?_)
      · refine ⟨_, rfl, a, rfl, fun H1 e1 => ⟨_, rfl, ?_⟩⟩
        refine ite2 (fun h3 => ?_) (fun h3 => ?_)
        · refine ⟨_, rfl, C_RESERVED, resV, rfl, .inr (T.t_RESERVED H1), rfl, rfl, ?_⟩
          exact k' _ _ e1 (by simp [wordL, of_decide_eq_true h1, of_decide_eq_true h2, h3])
        · exact k' _ _ e1 (by simp [wordL, of_decide_eq_true h1, of_decide_eq_true h2, h3])
      · exact k' _ _ (Same.refl _) (by simp only [decide_eq_true_eq] at h2; simp [wordL, h2])
    · refine ⟨_, rfl, iteF ?_⟩
      exact k' _ _ (Same.refl _) (by simp only [decide_eq_true_eq] at h1; simp only [wordL, h1]; simp)

theorem c_fits_key (T : Txt K mg C_HEADS C_RESERVED) : Cal P w K mg base 3 "fits_key" (fun vs H Q _ => ∃ a, vs = [.str (S a)] ∧ a.length ≤ 100000 ∧ ∀ H', Same H H' → Q (.bl (keyL a)) H') [] := by
  have c_fits_word : Cal P w K mg base 2 "fits_word" spWord [] := c_fits_word T
  refine cal_of T.d_fits_key sc_fits_key (fun vs H Q E h => ?_) (fun f cdv A outer s H vs Q E hr h => ?_)
  · obtain ⟨a, rfl, _⟩ := h
    rfl
  · obtain ⟨a, rfl, hl, k⟩ := h
    have k' : ∀ b H', Same H H' → keyL a = b → Q (.bl b) H' := fun b H' e h => h ▸ k H' e
    refine ⟨_, (pss_cons (ps_if (pt_cmpR op_eq (pv 0) pe_str (nomark _)) (pss_one (ps_ret pe_bl)) pss_nil)
      (pss_cons (ps_set (i := 1) sc_fits_key.nd rfl (by first | exact Or.inl rfl | exact Or.inr rfl) (pe_bm PySem.F.plainAttrs_str PySem.F.slot_str_partition PySem.F.type_str_partition mt_partition (pv 0) (pa_cons pe_str pa_nil)))
      (pss_one (ps_ret (pe_and (pe_cmpR op_in_seq (pe_ix ix_tup (pv 1) pe_int (fun _ _ => rfl)) (pe_gc rfl T.g_HEADS) (by with_unfolding_all rfl)) (pe_one (pe_c c_fits_word hr (by decide) rfl (pa_cons (pe_ix ix_tup (pv 1) pe_int (fun _ _ => rfl)) pa_nil)))))))), ?_⟩
    refine ⟨_, rfl, rfl, _, rfl, ?_⟩
    refine ite2 (fun h1 => ?_) (fun h1 => ?_)
    · exact k' _ _ (Same.refl _) (by simp only [keyL, h1, Bool.true_or])
    · refine ⟨_, rfl, rfl, S a, " ", rfl, rfl, rfl, szl hl, fun p hp => ?_⟩
      refine ⟨_, rfl, p, _, 0, _, rfl, rfl, SqT.of upd_same, rfl, C_HEADS, headV, rfl, .inr (T.t_HEADS _), rfl, rfl, _, rfl, ?_⟩
      refine ite2 (fun h2 => ?_) (fun h2 => ?_)
      · refine ⟨_, rfl, p, _, 2, _, rfl, rfl, SqT.of upd_same, rfl, (part2 a).cps.toList, (by rw [S_tl]; rfl), Nat.le_trans (part2_le a) hl, fun H' e => ?_⟩
        refine k' _ _ ((Same.new hp).trans e) ?_
        have h2' : inV (V.str (part0 a)) headV = true := h2
        simp only [decide_eq_true_eq] at h1
        simp [keyL, h1, h2']
      · refine k' _ _ (Same.new hp) ?_
        have h2' : inV (V.str (part0 a)) headV = false := by simpa [part0] using h2
        simp only [decide_eq_true_eq] at h1
        simp [keyL, h1, h2']

/-- what isinstance(v, str) asks -/
def StrOr (K : PySem.W.Frag) (H : Hp) (v : V) (z : Option (List Nat)) : Prop := ∃ t, TyX K H v t ∧ PySem.W.kitOne K t (.type "str") = some z.isSome ∧ ∀ a, z = some a → v = .str (S a) ∧ a.length ≤ 100000
def spIs (K : PySem.W.Frag) (g : List Nat → Bool) : Sp := fun vs H Q _ => ∃ v z, vs = [v] ∧ StrOr K H v z ∧ ∀ H', Same H H' → Q (.bl (z.elim false g)) H'
theorem c_is_word (T : Txt K mg C_HEADS C_RESERVED) : Cal P w K mg base 3 "is_word" (spIs K wordL) [] := by
  have c_fits_word : Cal P w K mg base 2 "fits_word" spWord [] := c_fits_word T
  refine cal_of T.d_is_word sc_is_word (fun vs H Q E h => ?_) (fun f cdv A outer s H vs Q E hr h => ?_)
  · obtain ⟨v, z, rfl, _⟩ := h
    rfl
  · obtain ⟨v, z, rfl, ⟨t, ty, ki, hz⟩, k⟩ := h
    refine ⟨_, (pss_one (ps_ret (pe_and (pe_callB call_isi (by rfl) T.b_isinstance (by decide +kernel) (pa_cons (pv 0) (pa_cons (pe_bltn (v := .ty "str") (by rfl) T.b_str (by decide +kernel) rfl) pa_nil))) (pe_one (pe_c c_fits_word hr (by decide) rfl (pa_cons (pv 0) pa_nil)))))), ?_⟩
    refine ⟨_, rfl, _, _, _, _, _, rfl, .ty _, ty, ki, _, rfl, ?_⟩
    cases z with
    | none => exact iteF (k H (Same.refl _))
    | some a =>
      obtain ⟨rfl, hl⟩ := hz a rfl
      exact iteT ⟨_, rfl, a, rfl, hl, k⟩
theorem c_is_key (T : Txt K mg C_HEADS C_RESERVED) : Cal P w K mg base 4 "is_key" (spIs K keyL) [] := by
  have c_fits_key : Cal P w K mg base 3 "fits_key" _ [] := c_fits_key T
  refine cal_of T.d_is_key sc_is_key (fun vs H Q E h => ?_) (fun f cdv A outer s H vs Q E hr h => ?_)
  · obtain ⟨v, z, rfl, _⟩ := h
    rfl
  · obtain ⟨v, z, rfl, ⟨t, ty, ki, hz⟩, k⟩ := h
    refine ⟨_, (pss_one (ps_ret (pe_and (pe_callB call_isi (by rfl) T.b_isinstance (by decide +kernel) (pa_cons (pv 0) (pa_cons (pe_bltn (v := .ty "str") (by rfl) T.b_str (by decide +kernel) rfl) pa_nil))) (pe_one (pe_c c_fits_key hr (by decide) rfl (pa_cons (pv 0) pa_nil)))))), ?_⟩
    refine ⟨_, rfl, _, _, _, _, _, rfl, .ty _, ty, ki, _, rfl, ?_⟩
    cases z with
    | none => exact iteF (k H (Same.refl _))
    | some a =>
      obtain ⟨rfl, hl⟩ := hz a rfl
      exact iteT ⟨_, rfl, a, rfl, hl, k⟩
end

/-! ### 4. the law's own texts -/
def Asc (a : List Nat) : Prop := ∀ c ∈ a, c < 128
def okS (n : Nat) : V → Bool
  | .str x => decide (x.length ≤ n) && x.cps.toList.all (· < 128)
  | _ => false
theorem okS_spec {n : Nat} {v : V} (h : okS n v = true) : ∃ a, v = .str (S a) ∧ a.length ≤ n ∧ Asc a := by
  cases v with
  | str x =>
    simp only [okS, Bool.and_eq_true, decide_eq_true_eq, List.all_eq_true] at h
    refine ⟨x.cps.toList, by rw [S_tl], by rw [Array.length_toList]; exact h.1, h.2⟩
  | _ => cases h
theorem all_okS {n : Nat} {xs : List V} {v : V} (h : xs.all (okS n) = true) (hv : v ∈ xs) : ∃ a, v = .str (S a) ∧ a.length ≤ n ∧ Asc a := okS_spec (List.all_eq_true.mp h v hv)
theorem Asc.nil : Asc [] := fun _ h => absurd h (List.not_mem_nil)
theorem Asc.app {a b : List Nat} (ha : Asc a) (hb : Asc b) : Asc (a ++ b) := fun c h => (List.mem_append.mp h).elim (ha c) (hb c)
theorem Asc.take {a : List Nat} (ha : Asc a) (n : Nat) : Asc (a.take n) := fun c h => ha c (List.mem_of_mem_take h)
theorem Asc.drop {a : List Nat} (ha : Asc a) (n : Nat) : Asc (a.drop n) := fun c h => ha c (List.mem_of_mem_drop h)
theorem lt9000 {m : Int} (h0 : 0 < m) (h : m ≤ 100000) : m.natAbs < 2 ^ 9000 := Nat.lt_of_le_of_lt (by omega : m.natAbs ≤ 100000) (by decide +kernel)
theorem atI_some {α : Type} {xs : List α} {i : Int} (h0 : 0 ≤ i) (h : i < (xs.length : Int)) : ∃ v, atI xs i = some v ∧ v ∈ xs := by
  obtain ⟨j, rfl⟩ : ∃ j : Nat, i = (j : Int) := ⟨i.toNat, by omega⟩
  exact ⟨xs[j], atI_nat (by simp [show j < xs.length by omega]), List.getElem_mem (by omega)⟩
def abc : Str := "abcdefghijklmnopqrstuvwxyz"
section
variable {P : Program} {w : World} {K : PySem.W.Frag} {mg : Str → Option Value} {base : Heap} {C_HEADS C_RESERVED : Addr}
def spRes : Sp := fun vs H Q _ => vs = [] ∧ ∀ p, H p = none → Q (.ref p) (upd H p (.lst resV))
theorem c__law_reserved (T : Txt K mg C_HEADS C_RESERVED) : Cal P w K mg base 1 "_law_reserved" spRes [] := by
  refine cal_of T.d__law_reserved sc__law_reserved (fun vs H Q E h => ?_) (fun f cdv A outer s H vs Q E hr h => ?_)
  · obtain ⟨rfl, _⟩ := h
    rfl
  · obtain ⟨rfl, k⟩ := h
    refine ⟨_, (pss_cons (ps_set (i := 0) sc__law_reserved.nd rfl (by first | exact Or.inl rfl | exact Or.inr rfl) pe_str)
      (pss_cons (ps_set (i := 1) sc__law_reserved.nd rfl (by first | exact Or.inl rfl | exact Or.inr rfl) pe_str)
      (pss_one (ps_ret (pe_bm PySem.F.plainAttrs_str PySem.F.slot_str_split PySem.F.type_str_split mt_split (pe_op op_add_str (pv 0) (pv 1)) (pa_cons pe_str pa_nil)))))), ?_⟩
    refine ⟨_, rfl, _, rfl, _, _, rfl, rfl, (by decide +kernel), rfl, _, _, rfl, rfl, rfl, (by decide +kernel), fun p hp => ?_⟩
    have e : (Txt.split (("class shared promise value init method getter setter chained final set keep read " : Str) ++ ("look call super of make fail try catch if else either or loop" : Str)) (" " : Str)).map V.str = resV := by decide +kernel
    have h := k p hp
    rw [← e] at h
    exact h

def spText (n : Nat) : Sp := fun vs H Q _ => ∃ b, vs = [.ref b] ∧ BagAt H b ∧ ∀ a H', a.length ≤ n → Asc a → Upto b H H' → BagAt H' b → Q (.str (S a)) H'
theorem c__law_letters (T : Txt K mg C_HEADS C_RESERVED) : Cal P w K mg base 2 "_law_letters" (spText 10) [] := by
  have c__law_draw : Cal P w K mg base 1 "_law_draw" spDraw [] := c__law_draw T
  refine cal_of T.d__law_letters sc__law_letters (fun vs H Q E h => ?_) (fun f cdv A outer s H vs Q E hr h => ?_)
  · obtain ⟨b, rfl, _⟩ := h
    rfl
  · obtain ⟨b, rfl, B, k⟩ := h
    refine ⟨_, (pss_cons (ps_set (i := 1) sc__law_letters.nd rfl (by first | exact Or.inl rfl | exact Or.inr rfl) pe_str)
      (pss_cons (ps_for PassesOwn.never rfl (pi_range1 rfl T.b_range (pa_cons (pe_op op_add pe_int (pe_c c__law_draw hr (by decide) rfl (pa_cons (pv 0) (pa_cons pe_int pa_nil)))) pa_nil)) (pg_name (i := 2) sc__law_letters.nd rfl (by first | exact Or.inl rfl | exact Or.inr rfl)) (pss_one (ps_set (i := 1) sc__law_letters.nd rfl (by first | exact Or.inl rfl | exact Or.inr rfl) (pe_op op_add_str (pv 1) (pe_ix ix_str pe_str (pe_c c__law_draw hr (by decide) rfl (pa_cons (pv 0) (pa_cons pe_int pa_nil))) (fun _ _ => rfl))))))
      (pss_one (ps_ret (pv 1))))), ?_⟩
    refine ⟨_, rfl, b, 10, rfl, B, by decide, lt9000 (by decide) (by decide), fun d H1 d0 d1 u1 B1 => ⟨_, _, rfl, rfl, _, rfl, by omega, by omega, ?_⟩⟩
    refine for_it walk_range (fun i σ H2 => ∃ (a : List Nat) (v : Option V), σ = [some (.ref b), some (.str (S a)), v] ∧ a.length ≤ i ∧ Asc a ∧ Upto b H H2 ∧ BagAt H2 b) ⟨[], none, rfl, Nat.le_refl _, Asc.nil, u1, B1⟩ (fun _ _ _ _ _ => trivial) ?_ ?_
    · rintro i x σ H2 H3 hi ⟨a, v, rfl, ha, hA, u2, B2⟩ ⟨rfl, rfl⟩
      refine ⟨_, rfl, _, rfl, b, 26, rfl, B2, by decide, lt9000 (by decide) (by decide), fun e H4 e0 e1 u4 B4 => ?_⟩
      obtain ⟨c, hc, hm⟩ := atI_some (xs := abc.cps.toList) e0 (by rw [show abc.cps.toList.length = 26 by decide +kernel]; exact e1)
      refine ⟨abc, e, c, rfl, rfl, by decide, hc, S a, S [c], rfl, rfl, ?_, ?_⟩
      · rw [S_len, S_len]
        exact sz (by simp; omega)
      · rw [S_cat]
        have h26 : abc.cps.toList.all (· < 128) = true := by decide +kernel
        exact ⟨a ++ [c], _, rfl, by simp; omega, hA.app (fun z hz => by cases List.mem_singleton.mp hz; exact of_decide_eq_true (List.all_eq_true.mp h26 c hm)), u2.trans u4, B4⟩
    · rintro σ H2 ⟨a, v, rfl, ha, hA, u2, B2⟩
      exact ⟨_, rfl, k a H2 (by omega) hA u2 B2⟩

theorem slice_asc {a : List Nat} (hA : Asc a) (l u : Option Int) : ∃ c, Txt.slice (S a) l u = S c ∧ c.length ≤ a.length ∧ Asc c := by
  refine ⟨(Txt.slice (S a) l u).cps.toList, by rw [S_tl], ?_, ?_⟩
  · have h := Txt.slice_le (S a) l u
    rw [S_len a] at h
    rw [Array.length_toList]
    exact h
  · intro c hc
    unfold Txt.slice at hc
    split at hc
    · exact hA c hc
    · simp only [List.mem_filterMap] at hc
      obtain ⟨i, _, hi⟩ := hc
      exact hA c (by simpa using Array.mem_of_getElem? hi)
theorem c__law_some (T : Txt K mg C_HEADS C_RESERVED) : Cal P w K mg base 3 "_law_some" (spText 30) [] := by
  have c__law_draw : Cal P w K mg base 1 "_law_draw" spDraw [] := c__law_draw T
  have c__law_one : Cal P w K mg base 2 "_law_one" (spOne K) [] := c__law_one T
  have c__law_reserved : Cal P w K mg base 1 "_law_reserved" spRes [] := c__law_reserved T
  have c__law_letters : Cal P w K mg base 2 "_law_letters" (spText 10) [] := c__law_letters T
  have res8 : resV.all (okS 8) = true := by decide +kernel
  refine cal_of T.d__law_some sc__law_some (fun vs H Q E h => ?_) (fun f cdv A outer s H vs Q E hr h => ?_)
  · obtain ⟨b, rfl, _⟩ := h
    rfl
  · obtain ⟨b, rfl, B, k⟩ := h
    refine ⟨_, (pss_cons (ps_set (i := 1) sc__law_some.nd rfl (by first | exact Or.inl rfl | exact Or.inr rfl) (pe_c c__law_draw hr (by decide) rfl (pa_cons (pv 0) (pa_cons pe_int pa_nil))))
      (pss_cons (ps_if (pt_cmpR op_eq (pv 1) pe_int (nomark _)) (pss_one (ps_ret (pe_c c__law_one hr (by decide) rfl (pa_cons (pv 0) (pa_cons (pe_c0 c__law_reserved hr (by decide) rfl) pa_nil))))) pss_nil)
      (pss_cons (ps_set (i := 2) sc__law_some.nd rfl (by first | exact Or.inl rfl | exact Or.inr rfl) (pe_c c__law_letters hr (by decide) rfl (pa_cons (pv 0) pa_nil)))
      (pss_cons (ps_if (pt_cmpR op_eq (pv 1) pe_int (nomark _)) (pss_cons (ps_set (i := 3) sc__law_some.nd rfl (by first | exact Or.inl rfl | exact Or.inr rfl) (pe_c c__law_draw hr (by decide) rfl (pa_cons (pv 0) (pa_cons (pe_op op_add (pe_callB call_len_str (by rfl) T.b_len (by decide +kernel) (pa_cons (pv 2) pa_nil)) pe_int) pa_nil))))
      (pss_one (ps_ret (pe_op op_add_str (pe_op op_add_str (pe_slice C8.sl_txt (pv 2) po_none (po_some (pv 3))) (pe_c c__law_one hr (by decide) rfl (pa_cons (pv 0) (pa_cons (pe_lst (pa_cons pe_str (pa_cons pe_str (pa_cons pe_str (pa_cons pe_str (pa_cons pe_str (pa_cons pe_str (pa_cons pe_str (pa_cons pe_str (pa_cons pe_str pa_nil)))))))))) pa_nil)))) (pe_slice C8.sl_txt (pv 2) (po_some (pv 3)) po_none))))) pss_nil)
      (pss_cons (ps_if (pt_cmpR op_eq (pv 1) pe_int (nomark _)) (pss_one (ps_ret (pe_op op_add_str (pe_c c__law_one hr (by decide) rfl (pa_cons (pv 0) (pa_cons (pe_c0 c__law_reserved hr (by decide) rfl) pa_nil))) (pe_slice C8.sl_txt (pv 2) po_none (po_some pe_int))))) pss_nil)
      (pss_one (ps_ret (pe_ifExp (pt_cmpR op_lt (pv 1) pe_int (nomark _)) (pv 2) (pe_slice C8.sl_txt (pv 2) po_none (po_some pe_int)))))))))), ?_⟩
    refine ⟨_, rfl, b, 6, rfl, B, by decide, lt9000 (by decide) (by decide), fun d H1 d0 d1 u1 B1 => ?_⟩
    have hb : ∀ {H : Hp} {p : Addr}, BagAt H b → H p = none → p ≠ b := fun {H p} B hp e => by
      subst e
      obtain ⟨_, _, _, e⟩ := B
      rw [e] at hp
      cases hp
    refine ⟨_, rfl, rfl, _, rfl, ?_⟩
    refine ite2 (fun h1 => ?_) (fun h1 => ?_)
    · refine ⟨_, rfl, rfl, fun p hp => ⟨b, p, resV, rfl, B1.same (Same.new hp), hb B1 hp, upd_same, by decide, by decide, fun v H2 hv u2 B2 => ?_⟩⟩
      obtain ⟨a, rfl, ha, hA⟩ := all_okS res8 hv
      exact k a H2 (by omega) hA (u1.trans ((Upto.new hp).trans u2)) B2
    refine ⟨_, rfl, b, rfl, B1, fun a H2 ha hA u2 B2 => ?_⟩
    refine ⟨_, rfl, rfl, _, rfl, ?_⟩
    have ua := u1.trans u2
    refine ite2 (fun h2 => ?_) (fun h2 => ?_)
    · -- kind == 1
      refine ⟨_, rfl, _, rfl, S a, rfl, szl (by omega), _, _, rfl, rfl, b, _, rfl, B2, by omega, lt9000 (by omega) (by rw [S_len]; omega), fun e H3 e0 e1 u3 B3 => ?_⟩
      refine ⟨_, rfl, _, rfl, e, rfl, S a, rfl, szl (by omega), _, rfl, by decide, fun p hp => ?_⟩
      refine ⟨b, p, _, rfl, B3.same (Same.new hp), hb B3 hp, upd_same, by decide, by decide, fun v H4 hv u4 B4 => ?_⟩
      obtain ⟨c, rfl, hc, hC⟩ := all_okS (n := 1) (by decide +kernel) hv
      obtain ⟨x, ex, hx, hX⟩ := slice_asc hA none (some e)
      obtain ⟨y, ey, hy, hY⟩ := slice_asc hA (some e) none
      rw [ex]
      refine ⟨S x, S c, rfl, rfl, by rw [S_len, S_len]; exact sz (by omega), _, rfl, _, rfl, e, rfl, S a, rfl, szl (by omega), ?_⟩
      rw [ey, S_cat]
      refine ⟨S (x ++ c), S y, rfl, rfl, by rw [S_len, S_len]; exact sz (by simp; omega), ?_⟩
      rw [S_cat]
      exact k _ _ (by simp; omega) ((hX.app hC).app hY) (ua.trans (u3.trans ((Upto.new hp).trans u4))) B4
    refine ⟨_, rfl, rfl, _, rfl, ?_⟩
    refine ite2 (fun h3 => ?_) (fun h3 => ?_)
    · -- kind == 2
      refine ⟨_, rfl, rfl, fun p hp => ⟨b, p, resV, rfl, B2.same (Same.new hp), hb B2 hp, upd_same, by decide, by decide, fun v H3 hv u3 B3 => ?_⟩⟩
      obtain ⟨c, rfl, hc, hC⟩ := all_okS res8 hv
      obtain ⟨x, ex, hx, hX⟩ := slice_asc hA none (some 1)
      refine ⟨_, rfl, 1, rfl, S a, rfl, szl (by omega), ?_⟩
      rw [ex]
      refine ⟨S c, S x, rfl, rfl, by rw [S_len, S_len]; exact sz (by omega), ?_⟩
      rw [S_cat]
      exact k _ _ (by simp; omega) (hC.app hX) (ua.trans ((Upto.new hp).trans u3)) B3
    · refine ⟨_, rfl, _, _, rfl, rfl, _, rfl, ?_⟩
      refine ite2 (fun h4 => ?_) (fun h4 => ?_)
      · exact ⟨_, rfl, k a H2 (by omega) hA ua B2⟩
      · obtain ⟨x, ex, hx, hX⟩ := slice_asc hA none (some 8)
        refine ⟨_, rfl, 8, rfl, S a, rfl, szl (by omega), ?_⟩
        rw [ex]
        exact k x H2 (by omega) hX ua B2
end

/-! ### 5. the law's own words and keys -/
/-- signs, each a text of its own -/
def signs (l : List Nat) : List V := l.map fun c => V.str (S [c])
def signD (l : List Nat) : List PyData := l.map fun c => PyData.str (S [c])
theorem dp_signs {K : PySem.W.Frag} {H : Hp} : ∀ l : List Nat, DpAll K H (signs l) (signD l)
  | [] => .nil
  | c :: l => .cons (.str _) (dp_signs l)
theorem lay_signs : ∀ {l : List Nat}, Asc l → PyData.canLayAll0 (signD l) = true
  | [], _ => rfl
  | c :: l, h => by
    have h1 : c < 128 := h c (List.mem_cons_self ..)
    show (PyData.canLay0 (.str (S [c])) && PyData.canLayAll0 (signD l)) = true
    rw [lay_signs fun z hz => h z (List.mem_cons_of_mem _ hz)]
    simp [PyData.canLay0, PyData.strOk]
    omega
theorem dep_signs : ∀ l : List Nat, PyData.depthAll (signD l) = 0
  | [] => rfl
  | c :: l => by
    show max (PyData.depth (.str (S [c]))) (PyData.depthAll (signD l)) = 0
    rw [dep_signs l]
    rfl
theorem shaped_signs {l : List Nat} (h : Asc l) : SeqAt.shaped (.list (signD l)) = true := by
  have e : PyData.canLay0 (.list (signD l)) = true := lay_signs h
  have e2 : PyData.depth (.list (signD l)) = PyData.depthAll (signD l) + 1 := rfl
  simp [SeqAt.shaped, e, e2, dep_signs]
theorem eqv_nil_signs (l : List Nat) : PyData.eqv (.list (signD l)) (.list []) = l.isEmpty := by cases l <;> rfl
theorem filt_small (a : List Nat) : (a.filter fun c => !smallC c).isEmpty = smallL a := by
  unfold smallL
  induction a with
  | nil => rfl
  | cons c a ih =>
    rw [List.filter_cons, List.all_cons]
    cases smallC c <;> simp [ih]
theorem asc_filter {a : List Nat} (h : Asc a) (p : Nat → Bool) : Asc (a.filter p) := fun c hc => h c ((List.mem_filter.mp hc).1)
section
variable {P : Program} {w : World} {K : PySem.W.Frag} {mg : Str → Option Value} {base : Heap} {C_HEADS C_RESERVED : Addr}
def spAW (g : List Nat → Bool) : Sp := fun vs H Q _ => ∃ a, vs = [.str (S a)] ∧ a.length ≤ 100000 ∧ Asc a ∧ ∀ H', Same H H' → Q (.bl (g a)) H'
theorem c__law_is_word (T : Txt K mg C_HEADS C_RESERVED) : Cal P w K mg base 2 "_law_is_word" (spAW wordL) [] := by
  have c__law_reserved : Cal P w K mg base 1 "_law_reserved" spRes [] := c__law_reserved T
  refine cal_of T.d__law_is_word sc__law_is_word (fun vs H Q E h => ?_) (fun f cdv A outer s H vs Q E hr h => ?_)
  · obtain ⟨a, rfl, _⟩ := h
    rfl
  · obtain ⟨a, rfl, hl, hA, k⟩ := h
    have k' : ∀ b H', Same H H' → wordL a = b → Q (.bl b) H' := fun b H' e h => h ▸ k H' e
    refine ⟨_, (pss_cons (ps_setLc (i := 1) (own := [("sign", 2)]) (g := gName 2)  rfl sc__law_is_word.nd rfl rfl (sw_true rfl rfl rfl (by decide +kernel)) (pi_str (pv 0)) (blkOk_by (N := ["text", "odd", "sign"]) (sc := defScope s__law_is_word) (by decide +kernel)) (fun _ _ _ _ _ => (pg_name (i := 2) sc__law_is_word.nd rfl (by first | exact Or.inl rfl | exact Or.inr rfl))) (fun _ _ _ _ _ => pts_one (pt_cmpR op_notIn_sign (pv 2) pe_str (by rfl))) (fun _ _ _ _ _ => (pv 2)))
      (pss_one (ps_ret (pe_and (pe_chain op_le op_le pe_int (pe_callB call_len_str (by rfl) T.b_len (by decide +kernel) (pa_cons (pv 0) pa_nil)) pe_int) (pe_and (pe_cmpR (op_eqD hr.units) (pv 1) (pe_lst pa_nil) (nomark _)) (pe_one (pe_cmpR op_notIn_seq (pv 0) (pe_c0 c__law_reserved hr (by decide) rfl) (by with_unfolding_all rfl)))))))), ?_⟩
    refine ⟨_, rfl, S a, rfl, fun D hD => lc_it walk_str (fun i H1 => H1 = upd H D (.lst (signs ((a.take i).filter fun c => !smallC c)))) rfl (fun _ _ _ _ => trivial) ?_ ?_⟩
    · rintro i x H1 H2 hi rfl ⟨rfl, c, hc, rfl⟩
      have hc' : a[i]? = some c := by simpa using hc
      refine ⟨rfl, _, rfl, c, _, rfl, rfl, _, rfl, ?_⟩
      have e2 : (a.take (i + 1)).filter (fun c => !smallC c) = ((a.take i).filter fun c => !smallC c) ++ (if smallC c = true then [] else [c]) := by
        rw [List.take_add_one, hc']
        cases hs : smallC c <;> simp [List.filter_cons, hs]
      refine ite2 (fun h1 => ?_) (fun h1 => ?_)
      · have hf : smallC c = false := by simpa [smallC] using h1
        refine ⟨_, rfl, _, upd_same, ?_, ?_⟩
        · refine Nat.lt_of_le_of_lt ?_ (by decide : 100000 < sizeLine)
          simp only [signs, List.length_map]
          exact Nat.le_trans (List.length_filter_le _ _) (Nat.le_trans (List.length_take_le' _ _) hl)
        · show upd (upd H D _) D _ = upd H D _
          rw [upd_upd, e2, hf]
          simp [signs]
      · have hf : smallC c = true := by simpa [smallC] using h1
        show upd H D _ = upd H D _
        rw [e2, hf]
        simp [signs]
    · rintro H1 rfl
      have hsz : (S a).cps.size = a.length := by simp
      rw [hsz, List.take_length]
      refine ⟨_, rfl, S a, rfl, szl hl, _, _, rfl, rfl, _, rfl, ?_⟩
      rw [S_len]
      refine ite2 (fun h1 => ?_) (fun h1 => ?_)
      · refine ⟨_, _, rfl, rfl, _, rfl, ?_⟩
        refine ite2 (fun h2 => ?_) (fun h2 => ?_)
        · refine ⟨_, rfl, by decide, fun p hp => ?_⟩
          have hDp : D ≠ p := ne_of_none (upd_same (H := H) (a := D)) hp
          refine ⟨_, _, .lst (SqL.of (by rw [upd_ne hDp]; exact upd_same)) (dp_signs _), .lst (SqL.of upd_same) .nil, shaped_signs (asc_filter hA _), rfl, ?_⟩
          rw [eqv_nil_signs, filt_small]
          refine ⟨_, rfl, ?_⟩
          refine ite2 (fun h3 => ?_) (fun h3 => ?_)
          · refine ⟨_, rfl, rfl, fun q hq => ⟨q, resV, rfl, .inl (SqL.of upd_same), rfl, rfl, ?_⟩⟩
            exact k' _ _ ((Same.new hD).trans ((Same.new hp).trans (Same.new hq))) (by simp [wordL, of_decide_eq_true h1, of_decide_eq_true h2, h3])
          · exact k' _ _ ((Same.new hD).trans (Same.new hp)) (by simp [wordL, of_decide_eq_true h1, of_decide_eq_true h2, h3])
        · exact k' _ _ (Same.new hD) (by simp only [decide_eq_true_eq] at h2; simp [wordL, h2])
      · refine ⟨_, rfl, iteF ?_⟩
        exact k' _ _ (Same.new hD) (by simp only [decide_eq_true_eq] at h1; simp only [wordL, h1]; simp)
end

def strD (l : List Str) : List PyData := l.map PyData.str
theorem dp_strs {K : PySem.W.Frag} {H : Hp} : ∀ l : List Str, DpAll K H (l.map V.str) (strD l)
  | [] => .nil
  | _ :: l => .cons (.str _) (dp_strs l)
theorem lay_strs : ∀ {l : List Str}, l.all PyData.strOk = true → PyData.canLayAll0 (strD l) = true
  | [], _ => rfl
  | c :: l, h => by
    rw [List.all_cons, Bool.and_eq_true] at h
    show (PyData.strOk c && PyData.canLayAll0 (strD l)) = true
    rw [lay_strs h.2, h.1]
    rfl
theorem dep_strs : ∀ l : List Str, PyData.depthAll (strD l) = 0
  | [] => rfl
  | c :: l => by
    show max (PyData.depth (.str c)) (PyData.depthAll (strD l)) = 0
    rw [dep_strs l]
    rfl
theorem shaped_strs {l : List Str} (h : l.all PyData.strOk = true) : SeqAt.shaped (.list (strD l)) = true := by
  have e : PyData.canLay0 (.list (strD l)) = true := lay_strs h
  have e2 : PyData.depth (.list (strD l)) = PyData.depthAll (strD l) + 1 := rfl
  simp [SeqAt.shaped, e, e2, dep_strs]
theorem eqv_nil_strs (l : List Str) : PyData.eqv (.list (strD l)) (.list []) = l.isEmpty := by cases l <;> rfl
def heads3 : List Str := ["method ", "getter ", "setter "]
def lawKeyL (a : List Nat) : Bool := decide (V.str (S a) = .str "init") || (!(heads3.filter (Txt.startswith (S a))).isEmpty && wordL (a.drop 7))
theorem starts_iff {a b : List Nat} : Txt.startswith (S a) (S b) = true ↔ ∃ r, a = b ++ r := by
  unfold Txt.startswith Builtin.Str.subAt
  rw [Bool.and_eq_true, decide_eq_true_eq, S_len, S_len, Nat.zero_add, beq_iff_eq]
  constructor
  · rintro ⟨h, e⟩
    have e2 : (a.toArray.extract 0 b.length).toList = b := by
      have := congrArg Array.toList e
      simpa using this
    refine ⟨a.drop b.length, ?_⟩
    have e3 : a.take b.length = b := by simpa using e2
    conv => lhs; rw [← List.take_append_drop b.length a, e3]
  · rintro ⟨r, rfl⟩
    refine ⟨by simp, ?_⟩
    apply Array.toList_inj.mp
    simp
theorem split_uni : ∀ {p h q r : List Nat}, 32 ∉ p → 32 ∉ h → (p ++ 32 :: q = h ++ 32 :: r ↔ p = h ∧ q = r)
  | [], [], q, r, _, _ => by simp
  | [], c :: h, q, r, _, hh => by
    have : c ≠ 32 := fun e => hh (by simp [e])
    simp
    intro e
    exact absurd e.symm this
  | c :: p, [], q, r, hp, _ => by
    have : c ≠ 32 := fun e => hp (by simp [e])
    simp
    intro e
    exact absurd e this
  | c :: p, d :: h, q, r, hp, hh => by
    have ih := split_uni (p := p) (h := h) (q := q) (r := r) (fun m => hp (List.mem_cons_of_mem _ m)) (fun m => hh (List.mem_cons_of_mem _ m))
    simp only [List.cons_append, List.cons.injEq, ih, and_assoc]
theorem split_at32 : ∀ {a : List Nat}, 32 ∈ a → ∃ p q, a = p ++ 32 :: q ∧ 32 ∉ p
  | c :: a, h => by
    by_cases e : c = 32
    · exact ⟨[], a, by simp [e], by simp⟩
    · obtain ⟨p, q, rfl, hp⟩ := split_at32 (a := a) ((List.mem_cons.mp h).resolve_left fun z => e z.symm)
      exact ⟨c :: p, q, rfl, fun m => (List.mem_cons.mp m).elim (fun z => e z.symm) hp⟩
def hM : List Nat := ("method" : Str).cps.toList
def hG : List Nat := ("getter" : Str).cps.toList
def hS : List Nat := ("setter" : Str).cps.toList
theorem headV_in (p : List Nat) : inV (.str (S p)) headV = (decide (p = hM) || (decide (p = hG) || decide (p = hS))) := by
  have e : headV = [V.str (S hM), V.str (S hG), V.str (S hS)] := by decide +kernel
  rw [e]
  show ((S hM == S p) || ((S hG == S p) || ((S hS == S p) || false))) = _
  rw [SX.S_beq_eq, SX.S_beq_eq, SX.S_beq_eq, Bool.or_false]
  simp only [eq_comm]
theorem heads3_eq : heads3 = [S (hM ++ [32]), S (hG ++ [32]), S (hS ++ [32])] := by decide +kernel
theorem starts32 {p q h : List Nat} (hp : 32 ∉ p) (hh : 32 ∉ h) : Txt.startswith (S (p ++ 32 :: q)) (S (h ++ [32])) = decide (p = h) := by
  rw [Bool.eq_iff_iff, starts_iff, decide_eq_true_eq]
  constructor
  · rintro ⟨r, e⟩
    rw [List.append_assoc] at e
    exact ((split_uni hp hh).mp e).1
  · rintro rfl
    exact ⟨q, by simp⟩
theorem starts_no {a h : List Nat} (ha : 32 ∉ a) : Txt.startswith (S a) (S (h ++ [32])) = false := by
  cases e : Txt.startswith (S a) (S (h ++ [32])) with
  | false => rfl
  | true =>
    obtain ⟨r, rfl⟩ := starts_iff.mp e
    exact absurd (by simp) ha
theorem word_nil : wordL [] = false := rfl
theorem key_eq (a : List Nat) : keyL a = lawKeyL a := by
  have spc : (" " : Str) = S [32] := by decide +kernel
  unfold keyL lawKeyL part0 part2
  congr 1
  rw [heads3_eq, spc]
  by_cases h : 32 ∈ a
  · obtain ⟨p, q, rfl, hp⟩ := split_at32 h
    have e := SX.partition_some (b := [32]) (by simp) (SX.par_head (sep := []) q hp)
    have e' : Txt.partition (S (p ++ 32 :: q)) (S [32]) = (S p, S [32], S q) := e
    rw [e']
    have n1 : 32 ∉ hM := by decide +kernel
    have n2 : 32 ∉ hG := by decide +kernel
    have n3 : 32 ∉ hS := by decide +kernel
    have l1 : hM.length = 6 := by decide +kernel
    have l2 : hG.length = 6 := by decide +kernel
    have l3 : hS.length = 6 := by decide +kernel
    simp only [headV_in, List.filter_cons, List.filter_nil, starts32 hp n1, starts32 hp n2, starts32 hp n3]
    show ((decide (p = hM) || (decide (p = hG) || decide (p = hS))) && wordL q) = _
    have dr : p.length = 6 → (p ++ 32 :: q).drop 7 = q := fun e => by
      rw [show 7 = p.length + 1 by omega, List.drop_append, List.drop_eq_nil_of_le (by omega)]
      simp
    by_cases e1 : p = hM
    · have := dr (by rw [e1]; exact l1)
      rw [this]
      simp [e1]
    · by_cases e2 : p = hG
      · have := dr (by rw [e2]; exact l2)
        rw [this]
        have z1 : ¬ hG = hM := by decide +kernel
        have z2 : ¬ hG = hS := by decide +kernel
        simp [z1, z2, e2]
      · by_cases e3 : p = hS
        · have := dr (by rw [e3]; exact l3)
          rw [this]
          have z1 : ¬ hS = hM := by decide +kernel
          have z2 : ¬ hS = hG := by decide +kernel
          simp [z1, z2, e3]
        · simp [e1, e2, e3]
  · have e := SX.partition_none (b := [32]) (by simp) (SX.par_head_none (sep := []) h)
    rw [e]
    simp only [List.filter_cons, List.filter_nil, starts_no h]
    show (inV _ headV && wordL []) = _
    rw [word_nil]
    simp
section
variable {P : Program} {w : World} {K : PySem.W.Frag} {mg : Str → Option Value} {base : Heap} {C_HEADS C_RESERVED : Addr}
theorem c__law_is_key (T : Txt K mg C_HEADS C_RESERVED) : Cal P w K mg base 3 "_law_is_key" (spAW keyL) [] := by
  have c__law_is_word : Cal P w K mg base 2 "_law_is_word" (spAW wordL) [] := c__law_is_word T
  refine cal_of T.d__law_is_key sc__law_is_key (fun vs H Q E h => ?_) (fun f cdv A outer s H vs Q E hr h => ?_)
  · obtain ⟨a, rfl, _⟩ := h
    rfl
  · obtain ⟨a, rfl, hl, hA, k⟩ := h
    have k' : ∀ b H', Same H H' → lawKeyL a = b → Q (.bl b) H' := fun b H' e h => h ▸ key_eq a ▸ k H' e
    refine ⟨_, (pss_cons (ps_setLc (i := 1) (own := [("head", 2)]) (g := gName 2)  rfl sc__law_is_key.nd rfl rfl (sw_true rfl rfl rfl (by decide +kernel)) (pi_list (pe_lst (pa_cons pe_str (pa_cons pe_str (pa_cons pe_str pa_nil))))) (blkOk_by (N := ["text", "heads", "head"]) (sc := defScope s__law_is_key) (by decide +kernel)) (fun _ _ _ _ _ => (pg_name (i := 2) sc__law_is_key.nd rfl (by first | exact Or.inl rfl | exact Or.inr rfl))) (fun _ _ _ _ _ => pts_one (pt_val (bmK (K := K) rfl (pe_bm PySem.F.plainAttrs_str PySem.F.slot_str_startswith PySem.F.type_str_startswith mt_startswith (pv 0) (pa_cons (pv 2) pa_nil))))) (fun _ _ _ _ _ => (pv 2)))
      (pss_one (ps_ret (pe_or (pe_cmpR op_eq (pv 0) pe_str (nomark _)) (pe_one (pe_and (pe_cmpR (op_neD hr.units) (pv 1) (pe_lst pa_nil) (nomark _)) (pe_one (pe_c c__law_is_word hr (by decide) rfl (pa_cons (pe_slice C8.sl_txt (pv 0) (po_some pe_int) po_none) pa_nil))))))))), ?_⟩
    refine ⟨by decide, fun p hp => ⟨p, rfl, ⟨_, SqL.of upd_same⟩, fun D hD => ?_⟩⟩
    have hpD : p ≠ D := ne_of_none upd_same hD
    refine lc_list (xs := heads3.map V.str) (fun i H1 => H1 = upd (upd H p (.lst (heads3.map V.str))) D (.lst (((heads3.take i).filter (Txt.startswith (S a))).map V.str))) rfl (fun i H1 _ e => by subst e; exact SqL.of (by rw [upd_ne hpD]; exact upd_same)) ?_ ?_
    · rintro i x H1 hx rfl
      rw [List.getElem?_map] at hx
      obtain ⟨h, hh, rfl⟩ := Option.map_eq_some_iff.mp hx
      refine ⟨rfl, _, rfl, rfl, _, rfl, S a, h, rfl, rfl, _, rfl, ?_⟩
      have e2 : (heads3.take (i + 1)).filter (Txt.startswith (S a)) = ((heads3.take i).filter (Txt.startswith (S a))) ++ (if Txt.startswith (S a) h = true then [h] else []) := by
        rw [List.take_add_one, hh]
        cases hs : Txt.startswith (S a) h <;> simp [hs]
      refine ite2 (fun h1 => ?_) (fun h1 => ?_)
      · refine ⟨_, rfl, _, upd_same, ?_, ?_⟩
        · refine Nat.lt_of_le_of_lt ?_ (by decide : 3 < sizeLine)
          rw [List.length_map]
          exact Nat.le_trans (List.length_filter_le _ _) (Nat.le_trans (List.length_take_le' _ _) (by decide))
        · show upd (upd _ D _) D _ = upd _ D _
          rw [upd_upd, e2, h1]
          simp
      · show upd _ D _ = upd _ D _
        simp only [Bool.not_eq_true] at h1
        rw [e2, h1]
        simp
    · rintro H1 rfl
      rw [List.take_of_length_le (by simp)]
      refine ⟨_, rfl, rfl, _, rfl, ?_⟩
      have s1 := (Same.new (o := .lst (heads3.map V.str)) hp).trans (Same.new (o := .lst ((heads3.filter (Txt.startswith (S a))).map V.str)) hD)
      refine ite2 (fun h1 => ?_) (fun h1 => ?_)
      · exact k' _ _ s1 (by simp only [lawKeyL, h1, Bool.true_or])
      · simp only [decide_eq_true_eq] at h1
        refine ⟨_, rfl, by decide, fun q hq => ?_⟩
        have hDq : D ≠ q := ne_of_none upd_same hq
        have hok : (heads3.filter (Txt.startswith (S a))).all PyData.strOk = true := by
          rw [List.all_eq_true]
          intro x hx
          exact List.all_eq_true.mp (by decide +kernel : heads3.all PyData.strOk = true) x (List.mem_filter.mp hx).1
        refine ⟨_, _, .lst (SqL.of (by rw [upd_ne hDq]; exact upd_same)) (dp_strs _), .lst (SqL.of upd_same) .nil, shaped_strs hok, rfl, ?_⟩
        rw [eqv_nil_strs]
        refine ⟨_, rfl, ?_⟩
        have s2 := s1.trans (Same.new (o := .lst []) hq)
        refine ite2 (fun h2 => ?_) (fun h2 => ?_)
        · refine ⟨_, rfl, _, rfl, S a, rfl, szl hl, ?_⟩
          rw [SX.slice_from (by decide)]
          refine ⟨a.drop 7, rfl, by simp; omega, hA.drop 7, fun H' e => k' _ _ (s2.trans e) ?_⟩
          simp [lawKeyL, h1, h2]
        · exact k' _ _ s2 (by simp [lawKeyL, h1, h2])
end

/-! ### 6. the law -/
def spLaw (K : PySem.W.Frag) : Sp := fun vs H Q _ => ∃ (a : Addr) (ns : List Int), vs = [.ref a] ∧ SqL K H a (ns.map V.int) ∧ ns.length ≤ 63 ∧ ∀ H', Q (.bl true) H'
theorem strOr_S {K : PySem.W.Frag} {H : Hp} {c : List Nat} (h : c.length ≤ 100000) : StrOr K H (.str (S c)) (some c) := ⟨_, .base (.str _), (kit_ty (show kitB "str" "str" = some true by decide +kernel)), fun a e => by cases e; exact ⟨rfl, h⟩⟩
theorem not_key {a : List Nat} (h : keyL a = false) : (some a).elim false keyL = false := h
theorem okS_str {n : Nat} {c : List Nat} (h : c.length ≤ n) (hc : Asc c) : okS n (.str (S c)) = true := by
  simp only [okS, Bool.and_eq_true, decide_eq_true_eq, List.all_eq_true]
  exact ⟨by rw [S_len]; exact h, fun x hx => by simpa using hc x (by simpa using hx)⟩
theorem okS_cat {n m : Nat} {x y : Str} (hx : okS n (.str x) = true) (hy : okS m (.str y) = true) : okS (n + m) (.str (x ++ y)) = true := by
  obtain ⟨a, e, ha, hA⟩ := okS_spec hx
  obtain ⟨b, e', hb, hB⟩ := okS_spec hy
  cases e
  cases e'
  rw [S_cat]
  exact okS_str (by simp; omega) (hA.app hB)
theorem okS_mono {n m : Nat} {v : V} (h : okS n v = true) (hm : n ≤ m) : okS m v = true := by
  obtain ⟨a, rfl, ha, hA⟩ := okS_spec h
  exact okS_str (by omega) hA
theorem okS_len {n : Nat} {x : Str} (h : okS n (.str x) = true) : x.length ≤ n := by
  simp only [okS, Bool.and_eq_true, decide_eq_true_eq] at h
  exact h.1
theorem szcat {n m : Nat} {x y : Str} (hx : okS n (.str x) = true) (hy : okS m (.str y) = true) (h : n + m ≤ 100000) : x.length + y.length ≤ sizeLine := sz (by have := okS_len hx; have := okS_len hy; omega)
theorem bag_ne {H : Hp} {b p : Addr} (B : BagAt H b) (hp : H p = none) : p ≠ b := fun e => by
  subst e
  obtain ⟨_, _, _, e⟩ := B
  rw [e] at hp
  cases hp
section
variable {P : Program} {w : World} {K : PySem.W.Frag} {mg : Str → Option Value} {base : Heap} {C_HEADS C_RESERVED : Addr}
theorem ok_law {f : Addr} {fd : FuncData} (F : Fun K "law" "law" s_law f fd) (T : Txt K mg C_HEADS C_RESERVED) : FnOk P w K mg base CX0 5 f fd ["script"] (spLaw K) := by
  have c_is_word : Cal P w K mg base 3 "is_word" (spIs K wordL) [] := c_is_word T
  have c_is_key : Cal P w K mg base 4 "is_key" (spIs K keyL) [] := c_is_key T
  have c__law_bag : Cal P w K mg base 1 "_law_bag" (spBag K) [] := c__law_bag T
  have c__law_one : Cal P w K mg base 2 "_law_one" (spOne K) [] := c__law_one T
  have c__law_some : Cal P w K mg base 3 "_law_some" (spText 30) [] := c__law_some T
  have c__law_is_word : Cal P w K mg base 2 "_law_is_word" (spAW wordL) [] := c__law_is_word T
  have c__law_is_key : Cal P w K mg base 3 "_law_is_key" (spAW keyL) [] := c__law_is_key T
  refine F.ok sc_law (fun vs H Q E h => ?_) (fun cdv A outer s H vs Q E hr h => ?_)
  · obtain ⟨a, ns, rfl, _⟩ := h
    rfl
  · obtain ⟨a, ns, rfl, hS, hlen, k⟩ := h
    refine ⟨_, (pss_cons (ps_set (i := 1) sc_law.nd rfl (by first | exact Or.inl rfl | exact Or.inr rfl) (pe_lst (pa_cons pe_non (pa_cons pe_bl (pa_cons pe_bl (pa_cons pe_int (pa_cons pe_int (pa_cons (pe_un un_neg pe_int) (pa_cons pe_str (pa_cons (pe_tup pa_nil) (pa_cons (pe_tup (pa_cons pe_str pa_nil)) (pa_cons (pe_lst (pa_cons pe_str pa_nil)) (pa_cons (pe_lst (pa_cons pe_str (pa_cons pe_str pa_nil))) (pa_cons (pe_tup (pa_cons pe_str pa_nil)) (pa_cons (pe_lst (pa_cons (pe_lst pa_nil) pa_nil)) (pa_cons pe_str (pa_cons pe_str pa_nil)))))))))))))))))
      (pss_cons (ps_for PassesOwn.never rfl (pi_list (pv 1)) (pg_name (i := 2) sc_law.nd rfl (by first | exact Or.inl rfl | exact Or.inr rfl)) (pss_one (ps_if (PW.pt (pw_or (pt_cmpR op_notBl (pe_c c_is_word hr (by decide) rfl (pa_cons (pv 2) pa_nil)) pe_bl (nomark _)) (pw_or1 (pt_cmpR op_notBl (pe_c c_is_key hr (by decide) rfl (pa_cons (pv 2) pa_nil)) pe_bl (nomark _))))) (pss_one (ps_ret pe_bl)) pss_nil)))
      (pss_cons (ps_for PassesOwn.never rfl (pi_range1 rfl T.b_range (pa_cons (pe_callB (call_max2 rfl) (by rfl) T.b_max (by decide +kernel) (pa_cons pe_int (pa_cons (pe_callB (call_min2 rfl) (by rfl) T.b_min (by decide +kernel) (pa_cons pe_int (pa_cons (pe_callB call_len_seq (by rfl) T.b_len (by decide +kernel) (pa_cons (pv 0) pa_nil)) pa_nil))) pa_nil))) pa_nil)) (pg_name (i := 3) sc_law.nd rfl (by first | exact Or.inl rfl | exact Or.inr rfl)) (pss_cons (ps_set (i := 4) sc_law.nd rfl (by first | exact Or.inl rfl | exact Or.inr rfl) (pe_c c__law_bag hr (by decide) rfl (pa_cons (pv 0) (pa_cons (pv 3) pa_nil))))
      (pss_one (ps_for PassesOwn.never rfl (pi_range1 rfl T.b_range (pa_cons pe_int pa_nil)) (pg_name (i := 5) sc_law.nd rfl (by first | exact Or.inl rfl | exact Or.inr rfl)) (pss_cons (ps_set (i := 6) sc_law.nd rfl (by first | exact Or.inl rfl | exact Or.inr rfl) (pe_c c__law_some hr (by decide) rfl (pa_cons (pv 4) pa_nil)))
      (pss_cons (ps_set (i := 7) sc_law.nd rfl (by first | exact Or.inl rfl | exact Or.inr rfl) (pe_lst (pa_cons pe_str (pa_cons pe_str (pa_cons pe_str (pa_cons pe_str (pa_cons pe_str (pa_cons pe_str (pa_cons pe_str (pa_cons pe_str (pa_cons pe_str (pa_cons pe_str pa_nil))))))))))))
      (pss_cons (ps_set (i := 8) sc_law.nd rfl (by first | exact Or.inl rfl | exact Or.inr rfl) (pe_op op_add_str (pe_c c__law_one hr (by decide) rfl (pa_cons (pv 4) (pa_cons (pe_op op_cat (pv 7) (pe_lst (pa_cons pe_str (pa_cons pe_str pa_nil)))) pa_nil))) (pe_c c__law_some hr (by decide) rfl (pa_cons (pv 4) pa_nil))))
      (pss_one (ps_for PassesOwn.never rfl (pi_list (pe_lst (pa_cons (pv 6) (pa_cons (pv 8) (pa_cons pe_str (pa_cons (pe_op op_add_str pe_str (pv 6)) (pa_cons (pe_op op_add_str pe_str (pv 6)) (pa_cons (pe_op op_add_str pe_str (pv 6)) (pa_cons (pe_op op_add_str (pv 6) pe_str) pa_nil))))))))) (pg_name (i := 9) sc_law.nd rfl (by first | exact Or.inl rfl | exact Or.inr rfl)) (pss_cons (ps_set (i := 10) sc_law.nd rfl (by first | exact Or.inl rfl | exact Or.inr rfl) (pe_tup (pa_cons (pe_c c_is_word hr (by decide) rfl (pa_cons (pv 9) pa_nil)) (pa_cons (pe_c c_is_key hr (by decide) rfl (pa_cons (pv 9) pa_nil)) pa_nil))))
      (pss_cons (ps_if (pt_cmpR (op_neD hr.units) (pv 10) (pe_tup (pa_cons (pe_c c__law_is_word hr (by decide) rfl (pa_cons (pv 9) pa_nil)) (pa_cons (pe_c c__law_is_key hr (by decide) rfl (pa_cons (pv 9) pa_nil)) pa_nil))) (nomark _)) (pss_one (ps_ret pe_bl)) pss_nil)
      (pss_one (ps_if (PW.pt (pw_or (pt_not (pt_val (pe_callB call_isi (by rfl) T.b_isinstance (by decide +kernel) (pa_cons (pe_ix ix_tup (pv 10) pe_int (fun _ _ => rfl)) (pa_cons (pe_bltn (v := .ty "bool") (by rfl) T.b_bool (by decide +kernel) rfl) pa_nil))))) (pw_or1 (pt_not (pt_val (pe_callB call_isi (by rfl) T.b_isinstance (by decide +kernel) (pa_cons (pe_ix ix_tup (pv 10) pe_int (fun _ _ => rfl)) (pa_cons (pe_bltn (v := .ty "bool") (by rfl) T.b_bool (by decide +kernel) rfl) pa_nil)))))))) (pss_one (ps_ret pe_bl)) pss_nil)))))))))))))
      (pss_one (ps_ret pe_bl))))), ?_⟩
    -- odd = [..]
    refine ⟨_, rfl, by decide, fun t0 n0 => ⟨by decide, fun t1 n1 => ⟨by decide, fun l1 m1 => ⟨by decide, fun l2 m2 => ⟨by decide, fun t2 n2 => ⟨by decide, fun e1 x1 => ⟨sz (by simp), fun l4 m4 => ⟨sz (by simp), fun po npo => ?_⟩⟩⟩⟩⟩⟩⟩⟩
    generalize hH9 : upd _ po _ = H9
    have S9 : Same H H9 := by
      subst hH9
      exact (Same.new n0).trans ((Same.new n1).trans ((Same.new m1).trans ((Same.new m2).trans ((Same.new n2).trans ((Same.new x1).trans ((Same.new m4).trans (Same.new npo)))))))
    have T0 : ∃ xs, H9 t0 = some (.tup xs) := ⟨_, by subst hH9; exact ((Same.new n1).trans ((Same.new m1).trans ((Same.new m2).trans ((Same.new n2).trans ((Same.new x1).trans ((Same.new m4).trans (Same.new npo))))))) _ _ upd_same⟩
    have T1 : ∃ xs, H9 t1 = some (.tup xs) := ⟨_, by subst hH9; exact ((Same.new m1).trans ((Same.new m2).trans ((Same.new n2).trans ((Same.new x1).trans ((Same.new m4).trans (Same.new npo)))))) _ _ upd_same⟩
    have T2 : ∃ xs, H9 t2 = some (.tup xs) := ⟨_, by subst hH9; exact ((Same.new x1).trans ((Same.new m4).trans (Same.new npo))) _ _ upd_same⟩
    have L1 : ∃ xs, H9 l1 = some (.lst xs) := ⟨_, by subst hH9; exact ((Same.new m2).trans ((Same.new n2).trans ((Same.new x1).trans ((Same.new m4).trans (Same.new npo))))) _ _ upd_same⟩
    have L2 : ∃ xs, H9 l2 = some (.lst xs) := ⟨_, by subst hH9; exact ((Same.new n2).trans ((Same.new x1).trans ((Same.new m4).trans (Same.new npo)))) _ _ upd_same⟩
    have L4 : ∃ xs, H9 l4 = some (.lst xs) := ⟨_, by subst hH9; exact (Same.new npo) _ _ upd_same⟩
    have hpo : H9 po = some (.lst [.non, .bl true, .bl false, .int 0, .int 7, .int (-3), .str "", .ref t0, .ref t1, .ref l1, .ref l2, .ref t2, .ref l4, .str " ", .str "init "]) := by subst hH9; exact upd_same
    clear hH9
    have no : ∀ {H1 : Hp} {v : V} {T : String}, TyX K H1 v (.type T) → kitB T "str" = some false → ∃ z, StrOr K H1 v z ∧ z.elim false wordL = false ∧ z.elim false keyL = false := fun ty e => ⟨none, ⟨_, ty, kit_ty e, fun a e => by cases e⟩, rfl, rfl⟩
    have yes : ∀ {H1 : Hp} {x : Str}, x.length ≤ 100000 → wordL x.cps.toList = false → keyL x.cps.toList = false → ∃ z, StrOr K H1 (.str x) z ∧ z.elim false wordL = false ∧ z.elim false keyL = false := fun {H1 x} h1 h2 h3 =>
      ⟨some x.cps.toList, by have := strOr_S (K := K) (H := H1) (c := x.cps.toList) (by rw [Array.length_toList]; exact h1); rw [S_tl] at this; exact this, h2, h3⟩
    have odds : ∀ H1, Same H9 H1 → ∀ v ∈ ([.non, .bl true, .bl false, .int 0, .int 7, .int (-3), .str "", .ref t0, .ref t1, .ref l1, .ref l2, .ref t2, .ref l4, .str " ", .str "init "] : List V), ∃ z, StrOr K H1 v z ∧ z.elim false wordL = false ∧ z.elim false keyL = false := by
      intro H1 e v hv
      have tt : ∀ {t : Addr}, (∃ xs, H9 t = some (.tup xs)) → ∃ z, StrOr K H1 (.ref t) z ∧ z.elim false wordL = false ∧ z.elim false keyL = false := fun ⟨_, h⟩ => no (.base (.tup (e _ _ h))) (by decide +kernel)
      have ll : ∀ {t : Addr}, (∃ xs, H9 t = some (.lst xs)) → ∃ z, StrOr K H1 (.ref t) z ∧ z.elim false wordL = false ∧ z.elim false keyL = false := fun ⟨_, h⟩ => no (.base (.lst (e _ _ h))) (by decide +kernel)
      simp only [List.mem_cons, List.not_mem_nil, or_false] at hv
      rcases hv with rfl | rfl | rfl | rfl | rfl | rfl | rfl | rfl | rfl | rfl | rfl | rfl | rfl | rfl | rfl
      · exact no (.base .non) (by decide +kernel)
      · exact no (.base (.bl _)) (by decide +kernel)
      · exact no (.base (.bl _)) (by decide +kernel)
      · exact no (.base (.int _)) (by decide +kernel)
      · exact no (.base (.int _)) (by decide +kernel)
      · exact no (.base (.int _)) (by decide +kernel)
      · exact yes (by decide) (by decide +kernel) (by decide +kernel)
      · exact tt T0
      · exact tt T1
      · exact ll L1
      · exact ll L2
      · exact tt T2
      · exact ll L4
      · exact yes (by decide) (by decide +kernel) (by decide +kernel)
      · exact yes (by decide) (by decide +kernel) (by decide +kernel)
    -- for value in odd
    refine ⟨_, rfl, po, rfl, ⟨_, SqL.of hpo⟩, for_list (fun i σ H1 => (∃ v, σ = [some (.ref a), some (.ref po), v, none, none, none, none, none, none, none, none]) ∧ Same H9 H1) ⟨⟨none, rfl⟩, Same.refl _⟩ (fun i σ H1 _ h => SqL.of (h.2 _ _ hpo)) ?_ ?_⟩
    · rintro i x σ H1 hx ⟨⟨v, rfl⟩, e1⟩
      obtain ⟨z, hz, hw, hk⟩ := odds H1 e1 x (List.mem_of_getElem? hx)
      refine ⟨_, rfl, x, z, rfl, hz, fun H2 e2 => ⟨_, _, rfl, rfl, _, rfl, iteNS hw ?_⟩⟩
      obtain ⟨z', hz', hw', hk'⟩ := odds H2 (e1.trans e2) x (List.mem_of_getElem? hx)
      refine ⟨_, rfl, x, z', rfl, hz', fun H3 e3 => ⟨_, _, rfl, rfl, _, rfl, iteNS hk' ?_⟩⟩
      exact ⟨⟨_, rfl⟩, e1.trans (e2.trans e3)⟩
    rintro σ H1 ⟨⟨v2, rfl⟩, e1⟩
    have S1 : Same H H1 := S9.trans e1
    -- for at in range(..)
    refine ⟨_, rfl, a, _, rfl, .inl (S1.seq hS), _, _, rfl, _, _, rfl, _, rfl, (by simp only [List.length_map]; split <;> split <;> omega), (by simp only [List.length_map]; split <;> split <;> omega), ?_⟩
    refine for_it walk_range (fun i σ H2 => (∃ v2 v3 v4 v5 v6 v7 v8 v9 v10, σ = [some (.ref a), some (.ref po), v2, v3, v4, v5, v6, v7, v8, v9, v10]) ∧ Same H H2) ⟨⟨_, _, _, _, _, _, _, _, _, rfl⟩, S1⟩ (fun _ _ _ _ _ => trivial) ?_ ?_
    · rintro i x σ H2 H2' hi ⟨⟨v2, v3, v4, v5, v6, v7, v8, v9, v10, rfl⟩, S2⟩ ⟨rfl, rfl⟩
      -- bag = _law_bag(script, at)
      refine ⟨_, rfl, _, rfl, a, ns, _, rfl, S2.seq hS, by omega, fun b H3 nb e3 B3 => ?_⟩
      have nb0 : H b = none := S2.free nb
      -- for turn in range(4)
      refine ⟨4, rfl, by decide, by decide, for_it walk_range (fun j σ H4 => (∃ v5 v6 v7 v8 v9 v10, σ = [some (.ref a), some (.ref po), v2, some (.int (0 + (i : Int))), some (.ref b), v5, v6, v7, v8, v9, v10]) ∧ Same H H4 ∧ BagAt H4 b) ⟨⟨_, _, _, _, _, _, rfl⟩, S2.trans e3, B3⟩ (fun _ _ _ _ _ => trivial) ?_ ?_⟩
      · rintro j x σ H4 H4' hj ⟨⟨v5, v6, v7, v8, v9, v10, rfl⟩, S4, B4⟩ ⟨rfl, rfl⟩
        -- text, heads, key
        refine ⟨_, rfl, b, rfl, B4, fun c H5 hc hC u5 B5 => ?_⟩
        have S5 := u5.same nb0 S4
        refine ⟨by decide, fun hd nhd => ?_⟩
        refine ⟨_, rfl, _, rfl, by decide, fun q nq => ⟨hd, q, _, _, rfl, rfl, by rw [upd_ne (ne_of_none upd_same nq)]; exact upd_same, upd_same, by decide, fun p np => ?_⟩⟩
        have s6 := fun (o : HO) => (Same.new nhd).trans ((Same.new nq).trans (Same.new (o := o) np))
        refine ⟨b, p, _, rfl, B5.same (s6 _), bag_ne ((B5.same ((Same.new nhd).trans (Same.new nq)))) np, upd_same, by decide, by decide, fun v H7 hv u7 B7 => ?_⟩
        have hv' := List.all_eq_true.mp (show List.all _ (okS 10) = true by decide +kernel) v hv
        obtain ⟨d, rfl, hd', hD⟩ := okS_spec hv'
        have S7 := u7.same nb0 (S5.trans (s6 _))
        refine ⟨_, rfl, b, rfl, B7, fun g H8 hg hG u8 B8 => ?_⟩
        have S8 := u8.same nb0 S7
        refine ⟨S d, S g, rfl, rfl, by rw [S_len, S_len]; exact sz (by omega), ?_⟩
        rw [S_cat]
        -- for each in [..]
        have k7 : okS 7 (.str "method ") = true := by decide +kernel
        have g7 : okS 7 (.str "getter ") = true := by decide +kernel
        have s7 : okS 7 (.str "setter ") = true := by decide +kernel
        have k1 : okS 1 (.str " ") = true := by decide +kernel
        have kc : okS 60 (.str (S c)) = true := okS_str (by omega) hC
        have kk : okS 60 (.str (S (d ++ g))) = true := okS_str (by simp; omega) (hD.app hG)
        refine ⟨_, rfl, _, rfl, _, rfl, _, _, rfl, rfl, szcat k7 kc (by decide), _, rfl, _, _, rfl, rfl, szcat g7 kc (by decide), _, rfl, _, _, rfl, rfl, szcat s7 kc (by decide), _, rfl, _, _, rfl, rfl, szcat kc k1 (by decide), sz (by simp), fun z nz => ⟨z, rfl, ⟨_, SqL.of upd_same⟩, ?_⟩⟩
        generalize hes : [V.str (S c), V.str (S (d ++ g)), _, _, _, _, _] = es
        have hes2 : es.all (okS 100) = true := by
          subst hes
          simp only [List.all_cons, List.all_nil, Bool.and_true, Bool.and_eq_true]
          exact ⟨okS_mono kc (by decide), okS_mono kk (by decide), by decide +kernel, okS_mono (okS_cat k7 kc) (by decide), okS_mono (okS_cat g7 kc) (by decide), okS_mono (okS_cat s7 kc) (by decide), okS_mono (okS_cat kc k1) (by decide)⟩
        have S9' := S8.trans (Same.new (o := .lst es) nz)
        have B9 := B8.same (Same.new (o := .lst es) nz)
        refine for_list (fun m σ H9 => (∃ v9 v10, σ = [some (.ref a), some (.ref po), v2, some (.int (0 + (i : Int))), some (.ref b), some (.int (0 + (j : Int))), some (.str (S c)), some (.ref hd), some (.str (S (d ++ g))), v9, v10]) ∧ Same H H9 ∧ BagAt H9 b ∧ H9 z = some (.lst es)) ⟨⟨_, _, rfl⟩, S9', B9, upd_same⟩ (fun m σ H9 _ h => SqL.of h.2.2.2) ?_ ?_
        · rintro m x σ H9 hx ⟨⟨v9, v10, rfl⟩, S9, B9, hz⟩
          obtain ⟨q, rfl, hq, hQ⟩ := all_okS hes2 (List.mem_of_getElem? hx)
          have ql : q.length ≤ 100000 := by omega
          -- found
          refine ⟨_, rfl, _, some q, rfl, strOr_S ql, fun X1 y1 => ⟨_, rfl, _, some q, rfl, strOr_S ql, fun X2 y2 => ⟨sz (by simp), fun fo nfo => ?_⟩⟩⟩
          -- found != (..)
          refine ⟨_, rfl, _, rfl, q, rfl, ql, hQ, fun X3 y3 => ⟨_, rfl, q, rfl, ql, hQ, fun X4 y4 => ⟨sz (by simp), fun fp nfp => ?_⟩⟩⟩
          have hfo : X4 fo = some (.tup [.bl ((some q).elim false wordL), .bl ((some q).elim false keyL)]) := (y3.trans y4) _ _ upd_same
          have hfo2 : upd X4 fp (.tup [.bl (wordL q), .bl (keyL q)]) fo = some (.tup [.bl ((some q).elim false wordL), .bl ((some q).elim false keyL)]) := (Same.new nfp) _ _ hfo
          refine ⟨_, _, .tup (SqT.of hfo2) (.cons (.bl _) (.cons (.bl _) .nil)), .tup (SqT.of upd_same) (.cons (.bl _) (.cons (.bl _) .nil)), rfl, rfl, _, rfl, ?_⟩
          have ee : PyData.eqv (.tuple [.bool ((some q).elim false wordL), .bool ((some q).elim false keyL)]) (.tuple [.bool (wordL q), .bool (keyL q)]) = true := SeqAt.eqv_refl _ rfl
          rw [ee]
          refine iteF ?_
          -- isinstance
          refine ⟨_, rfl, fo, _, 0, _, rfl, rfl, SqT.of hfo2, rfl, _, _, _, _, _, rfl, .ty _, .base (.bl _), kit_ty (show kitB "bool" "bool" = some true by decide +kernel), _, rfl, iteF ?_⟩
          refine ⟨_, rfl, fo, _, 1, _, rfl, rfl, SqT.of hfo2, rfl, _, _, _, _, _, rfl, .ty _, .base (.bl _), kit_ty (show kitB "bool" "bool" = some true by decide +kernel), _, rfl, iteF ?_⟩
          have y := fun (o : HO) => (y1.trans y2).trans ((Same.new nfo).trans ((y3.trans y4).trans (Same.new (o := o) nfp)))
          exact ⟨⟨_, _, rfl⟩, S9.trans (y _), B9.same (y _), y _ _ _ hz⟩
        · rintro σ H9 ⟨⟨v9, v10, rfl⟩, S9, B9, hz⟩
          exact ⟨⟨_, _, _, _, _, _, rfl⟩, S9, B9⟩
      · rintro σ H4 ⟨⟨v5, v6, v7, v8, v9, v10, rfl⟩, S4, B4⟩
        exact ⟨⟨_, _, _, _, _, _, _, _, _, rfl⟩, S4⟩
    · rintro σ H2 ⟨⟨v2, v3, v4, v5, v6, v7, v8, v9, v10, rfl⟩, S2⟩
      exact k H2
end

theorem all_mk {l : PySem.W.OpenLaw} {w : World} {K : PySem.W.Frag} {h : Heap} {mg : Str → Option Value} {fa f4 : Addr} (X : K.In h) (G : h.Ns mainGlobals mg) (hfa : mg "law" = some (.ref fa))
    {C_HEADS : Addr} {od_HEADS : Option Addr} {n_HEADS : Nat} {sl_HEADS : Array (Option Value)} {its_HEADS : Array Value}
    {tk_LONGEST : Tok}
    {C_RESERVED : Addr} {od_RESERVED : Option Addr} {n_RESERVED : Nat} {sl_RESERVED : Array (Option Value)} {its_RESERVED : Array Value}
    {tk_SMALL : Tok}
    {f_fits_word : Addr} {od_fits_word an_fits_word : Option Addr} {sl_fits_word : Array (Option Value)} {oc_fits_word kV_fits_word dc_fits_word pm_fits_word cd_fits_word ct_fits_word : Value}
    {f_all_small : Addr} {od_all_small an_all_small : Option Addr} {sl_all_small : Array (Option Value)} {oc_all_small kV_all_small dc_all_small pm_all_small cd_all_small ct_all_small : Value}
    {f_fits_key : Addr} {od_fits_key an_fits_key : Option Addr} {sl_fits_key : Array (Option Value)} {oc_fits_key kV_fits_key dc_fits_key pm_fits_key cd_fits_key ct_fits_key : Value}
    {f_is_word : Addr} {od_is_word an_is_word : Option Addr} {sl_is_word : Array (Option Value)} {oc_is_word kV_is_word dc_is_word pm_is_word cd_is_word ct_is_word : Value}
    {f_is_key : Addr} {od_is_key an_is_key : Option Addr} {sl_is_key : Array (Option Value)} {oc_is_key kV_is_key dc_is_key pm_is_key cd_is_key ct_is_key : Value}
    {f__law_bag : Addr} {od__law_bag an__law_bag : Option Addr} {sl__law_bag : Array (Option Value)} {oc__law_bag kV__law_bag dc__law_bag pm__law_bag cd__law_bag ct__law_bag : Value}
    {f__law_draw : Addr} {od__law_draw an__law_draw : Option Addr} {sl__law_draw : Array (Option Value)} {oc__law_draw kV__law_draw dc__law_draw pm__law_draw cd__law_draw ct__law_draw : Value}
    {f__law_one : Addr} {od__law_one an__law_one : Option Addr} {sl__law_one : Array (Option Value)} {oc__law_one kV__law_one dc__law_one pm__law_one cd__law_one ct__law_one : Value}
    {f__law_reserved : Addr} {od__law_reserved an__law_reserved : Option Addr} {sl__law_reserved : Array (Option Value)} {oc__law_reserved kV__law_reserved dc__law_reserved pm__law_reserved cd__law_reserved ct__law_reserved : Value}
    {f__law_letters : Addr} {od__law_letters an__law_letters : Option Addr} {sl__law_letters : Array (Option Value)} {oc__law_letters kV__law_letters dc__law_letters pm__law_letters cd__law_letters ct__law_letters : Value}
    {f__law_some : Addr} {od__law_some an__law_some : Option Addr} {sl__law_some : Array (Option Value)} {oc__law_some kV__law_some dc__law_some pm__law_some cd__law_some ct__law_some : Value}
    {f__law_is_word : Addr} {od__law_is_word an__law_is_word : Option Addr} {sl__law_is_word : Array (Option Value)} {oc__law_is_word kV__law_is_word dc__law_is_word pm__law_is_word cd__law_is_word ct__law_is_word : Value}
    {f__law_is_key : Addr} {od__law_is_key an__law_is_key : Option Addr} {sl__law_is_key : Array (Option Value)} {oc__law_is_key kV__law_is_key dc__law_is_key pm__law_is_key cd__law_is_key ct__law_is_key : Value}
    {od4 an4 : Option Addr} {sl4 : Array (Option Value)} {oc4 kV4 dc4 pm4 cd4 ct4 : Value}
    (zb_abs : PySem.W.nsIn K mainGlobals "abs" = some none)
    (zb_bool : PySem.W.nsIn K mainGlobals "bool" = some none)
    (zb_enumerate : PySem.W.nsIn K mainGlobals "enumerate" = some none)
    (zb_int : PySem.W.nsIn K mainGlobals "int" = some none)
    (zb_isinstance : PySem.W.nsIn K mainGlobals "isinstance" = some none)
    (zb_len : PySem.W.nsIn K mainGlobals "len" = some none)
    (zb_max : PySem.W.nsIn K mainGlobals "max" = some none)
    (zb_min : PySem.W.nsIn K mainGlobals "min" = some none)
    (zb_range : PySem.W.nsIn K mainGlobals "range" = some none)
    (zb_str : PySem.W.nsIn K mainGlobals "str" = some none)
    (zc_HEADS : PySem.W.nsIn K mainGlobals "HEADS" = some (some (.ref C_HEADS)))
    (lc_HEADS : K.lookup C_HEADS = some ⟨.type "tuple", od_HEADS, .seq its_HEADS n_HEADS, sl_HEADS⟩)
    (vc_HEADS : its_HEADS.toList.map absV = L_HEADS.map some)
    (zc_LONGEST : PySem.W.nsIn K mainGlobals "LONGEST" = some (some (.int 8 tk_LONGEST)))
    (zc_RESERVED : PySem.W.nsIn K mainGlobals "RESERVED" = some (some (.ref C_RESERVED)))
    (lc_RESERVED : K.lookup C_RESERVED = some ⟨.type "tuple", od_RESERVED, .seq its_RESERVED n_RESERVED, sl_RESERVED⟩)
    (vc_RESERVED : its_RESERVED.toList.map absV = L_RESERVED.map some)
    (zc_SMALL : PySem.W.nsIn K mainGlobals "SMALL" = some (some (.str "abcdefghijklmnopqrstuvwxyz" tk_SMALL)))
    (a_fits_word : PySem.W.nsIn K mainGlobals "fits_word" = some (some (.ref f_fits_word)))
    (l_fits_word : K.lookup f_fits_word = some ⟨oc_fits_word, od_fits_word, .func (PySem.W.fnOf "fits_word" "fits_word" (defArgs s_fits_word) (defBody s_fits_word) (defScope s_fits_word) .none kV_fits_word dc_fits_word pm_fits_word an_fits_word cd_fits_word ct_fits_word), sl_fits_word⟩)
    (c_fits_word : PySem.W.codeIn K cd_fits_word "fits_word" = true)
    (k_fits_word : PySem.W.keepIn K (.ref f_fits_word) = true)
    (a_all_small : PySem.W.nsIn K mainGlobals "all_small" = some (some (.ref f_all_small)))
    (l_all_small : K.lookup f_all_small = some ⟨oc_all_small, od_all_small, .func (PySem.W.fnOf "all_small" "all_small" (defArgs s_all_small) (defBody s_all_small) (defScope s_all_small) .none kV_all_small dc_all_small pm_all_small an_all_small cd_all_small ct_all_small), sl_all_small⟩)
    (c_all_small : PySem.W.codeIn K cd_all_small "all_small" = true)
    (k_all_small : PySem.W.keepIn K (.ref f_all_small) = true)
    (a_fits_key : PySem.W.nsIn K mainGlobals "fits_key" = some (some (.ref f_fits_key)))
    (l_fits_key : K.lookup f_fits_key = some ⟨oc_fits_key, od_fits_key, .func (PySem.W.fnOf "fits_key" "fits_key" (defArgs s_fits_key) (defBody s_fits_key) (defScope s_fits_key) .none kV_fits_key dc_fits_key pm_fits_key an_fits_key cd_fits_key ct_fits_key), sl_fits_key⟩)
    (c_fits_key : PySem.W.codeIn K cd_fits_key "fits_key" = true)
    (k_fits_key : PySem.W.keepIn K (.ref f_fits_key) = true)
    (a_is_word : PySem.W.nsIn K mainGlobals "is_word" = some (some (.ref f_is_word)))
    (l_is_word : K.lookup f_is_word = some ⟨oc_is_word, od_is_word, .func (PySem.W.fnOf "is_word" "is_word" (defArgs s_is_word) (defBody s_is_word) (defScope s_is_word) .none kV_is_word dc_is_word pm_is_word an_is_word cd_is_word ct_is_word), sl_is_word⟩)
    (c_is_word : PySem.W.codeIn K cd_is_word "is_word" = true)
    (k_is_word : PySem.W.keepIn K (.ref f_is_word) = true)
    (a_is_key : PySem.W.nsIn K mainGlobals "is_key" = some (some (.ref f_is_key)))
    (l_is_key : K.lookup f_is_key = some ⟨oc_is_key, od_is_key, .func (PySem.W.fnOf "is_key" "is_key" (defArgs s_is_key) (defBody s_is_key) (defScope s_is_key) .none kV_is_key dc_is_key pm_is_key an_is_key cd_is_key ct_is_key), sl_is_key⟩)
    (c_is_key : PySem.W.codeIn K cd_is_key "is_key" = true)
    (k_is_key : PySem.W.keepIn K (.ref f_is_key) = true)
    (a__law_bag : PySem.W.nsIn K mainGlobals "_law_bag" = some (some (.ref f__law_bag)))
    (l__law_bag : K.lookup f__law_bag = some ⟨oc__law_bag, od__law_bag, .func (PySem.W.fnOf "_law_bag" "_law_bag" (defArgs s__law_bag) (defBody s__law_bag) (defScope s__law_bag) .none kV__law_bag dc__law_bag pm__law_bag an__law_bag cd__law_bag ct__law_bag), sl__law_bag⟩)
    (c__law_bag : PySem.W.codeIn K cd__law_bag "_law_bag" = true)
    (k__law_bag : PySem.W.keepIn K (.ref f__law_bag) = true)
    (a__law_draw : PySem.W.nsIn K mainGlobals "_law_draw" = some (some (.ref f__law_draw)))
    (l__law_draw : K.lookup f__law_draw = some ⟨oc__law_draw, od__law_draw, .func (PySem.W.fnOf "_law_draw" "_law_draw" (defArgs s__law_draw) (defBody s__law_draw) (defScope s__law_draw) .none kV__law_draw dc__law_draw pm__law_draw an__law_draw cd__law_draw ct__law_draw), sl__law_draw⟩)
    (c__law_draw : PySem.W.codeIn K cd__law_draw "_law_draw" = true)
    (k__law_draw : PySem.W.keepIn K (.ref f__law_draw) = true)
    (a__law_one : PySem.W.nsIn K mainGlobals "_law_one" = some (some (.ref f__law_one)))
    (l__law_one : K.lookup f__law_one = some ⟨oc__law_one, od__law_one, .func (PySem.W.fnOf "_law_one" "_law_one" (defArgs s__law_one) (defBody s__law_one) (defScope s__law_one) .none kV__law_one dc__law_one pm__law_one an__law_one cd__law_one ct__law_one), sl__law_one⟩)
    (c__law_one : PySem.W.codeIn K cd__law_one "_law_one" = true)
    (k__law_one : PySem.W.keepIn K (.ref f__law_one) = true)
    (a__law_reserved : PySem.W.nsIn K mainGlobals "_law_reserved" = some (some (.ref f__law_reserved)))
    (l__law_reserved : K.lookup f__law_reserved = some ⟨oc__law_reserved, od__law_reserved, .func (PySem.W.fnOf "_law_reserved" "_law_reserved" (defArgs s__law_reserved) (defBody s__law_reserved) (defScope s__law_reserved) .none kV__law_reserved dc__law_reserved pm__law_reserved an__law_reserved cd__law_reserved ct__law_reserved), sl__law_reserved⟩)
    (c__law_reserved : PySem.W.codeIn K cd__law_reserved "_law_reserved" = true)
    (k__law_reserved : PySem.W.keepIn K (.ref f__law_reserved) = true)
    (a__law_letters : PySem.W.nsIn K mainGlobals "_law_letters" = some (some (.ref f__law_letters)))
    (l__law_letters : K.lookup f__law_letters = some ⟨oc__law_letters, od__law_letters, .func (PySem.W.fnOf "_law_letters" "_law_letters" (defArgs s__law_letters) (defBody s__law_letters) (defScope s__law_letters) .none kV__law_letters dc__law_letters pm__law_letters an__law_letters cd__law_letters ct__law_letters), sl__law_letters⟩)
    (c__law_letters : PySem.W.codeIn K cd__law_letters "_law_letters" = true)
    (k__law_letters : PySem.W.keepIn K (.ref f__law_letters) = true)
    (a__law_some : PySem.W.nsIn K mainGlobals "_law_some" = some (some (.ref f__law_some)))
    (l__law_some : K.lookup f__law_some = some ⟨oc__law_some, od__law_some, .func (PySem.W.fnOf "_law_some" "_law_some" (defArgs s__law_some) (defBody s__law_some) (defScope s__law_some) .none kV__law_some dc__law_some pm__law_some an__law_some cd__law_some ct__law_some), sl__law_some⟩)
    (c__law_some : PySem.W.codeIn K cd__law_some "_law_some" = true)
    (k__law_some : PySem.W.keepIn K (.ref f__law_some) = true)
    (a__law_is_word : PySem.W.nsIn K mainGlobals "_law_is_word" = some (some (.ref f__law_is_word)))
    (l__law_is_word : K.lookup f__law_is_word = some ⟨oc__law_is_word, od__law_is_word, .func (PySem.W.fnOf "_law_is_word" "_law_is_word" (defArgs s__law_is_word) (defBody s__law_is_word) (defScope s__law_is_word) .none kV__law_is_word dc__law_is_word pm__law_is_word an__law_is_word cd__law_is_word ct__law_is_word), sl__law_is_word⟩)
    (c__law_is_word : PySem.W.codeIn K cd__law_is_word "_law_is_word" = true)
    (k__law_is_word : PySem.W.keepIn K (.ref f__law_is_word) = true)
    (a__law_is_key : PySem.W.nsIn K mainGlobals "_law_is_key" = some (some (.ref f__law_is_key)))
    (l__law_is_key : K.lookup f__law_is_key = some ⟨oc__law_is_key, od__law_is_key, .func (PySem.W.fnOf "_law_is_key" "_law_is_key" (defArgs s__law_is_key) (defBody s__law_is_key) (defScope s__law_is_key) .none kV__law_is_key dc__law_is_key pm__law_is_key an__law_is_key cd__law_is_key ct__law_is_key), sl__law_is_key⟩)
    (c__law_is_key : PySem.W.codeIn K cd__law_is_key "_law_is_key" = true)
    (k__law_is_key : PySem.W.keepIn K (.ref f__law_is_key) = true)
    (a4 : PySem.W.nsIn K mainGlobals "law" = some (some (.ref f4))) (l4 : K.lookup f4 = some ⟨oc4, od4, .func (PySem.W.fnOf "law" "law" (defArgs s_law) (defBody s_law) (defScope s_law) .none kV4 dc4 pm4 an4 cd4 ct4), sl4⟩) (c4 : PySem.W.codeIn K cd4 "law" = true) (k4 : PySem.W.keepIn K (.ref f4) = true) :
    ∃ fd : FuncData, (∀ (s : Shared) (v : Value), BindsTo s fd ⟨[v], []⟩ [("script", v)]) ∧ ∀ base : Heap, K.In base → base.Ns mainGlobals mg → FnOk l.prog w K mg base CX0 5 fa fd ["script"] (spLaw K) := by
  have e := hfa.symm.trans (PySem.W.mg_of X G a4)
  cases e
  have T : Txt K mg C_HEADS C_RESERVED := {
    b_abs := PySem.W.mg_none_of X G zb_abs
    b_bool := PySem.W.mg_none_of X G zb_bool
    b_enumerate := PySem.W.mg_none_of X G zb_enumerate
    b_int := PySem.W.mg_none_of X G zb_int
    b_isinstance := PySem.W.mg_none_of X G zb_isinstance
    b_len := PySem.W.mg_none_of X G zb_len
    b_max := PySem.W.mg_none_of X G zb_max
    b_min := PySem.W.mg_none_of X G zb_min
    b_range := PySem.W.mg_none_of X G zb_range
    b_str := PySem.W.mg_none_of X G zb_str
    g_HEADS := ⟨_, PySem.W.mg_of X G zc_HEADS, rfl⟩
    t_HEADS := fun H => .inr ⟨_, _, _, lc_HEADS, rfl, rfl, (by have := congrArg List.length vc_HEADS; simp [L_HEADS] at this; show its_HEADS.size ≤ sizeLine; rw [this]; decide), vals_of_abs _ _ vc_HEADS⟩
    g_LONGEST := ⟨_, PySem.W.mg_of X G zc_LONGEST, ⟨_, rfl⟩⟩
    g_RESERVED := ⟨_, PySem.W.mg_of X G zc_RESERVED, rfl⟩
    t_RESERVED := fun H => .inr ⟨_, _, _, lc_RESERVED, rfl, rfl, (by have := congrArg List.length vc_RESERVED; simp [L_RESERVED] at this; show its_RESERVED.size ≤ sizeLine; rw [this]; decide), vals_of_abs _ _ vc_RESERVED⟩
    g_SMALL := ⟨_, PySem.W.mg_of X G zc_SMALL, ⟨_, rfl⟩⟩
    d_fits_word := ⟨_, _, fun_mk (st := s_fits_word) l_fits_word c_fits_word k_fits_word, PySem.W.mg_of X G a_fits_word, (fun_mk (st := s_fits_word) l_fits_word c_fits_word k_fits_word).binds fun _ _ _ _ _ _ us hl => match us, hl with | [_], _ => rfl⟩
    d_all_small := ⟨_, _, fun_mk (st := s_all_small) l_all_small c_all_small k_all_small, PySem.W.mg_of X G a_all_small, (fun_mk (st := s_all_small) l_all_small c_all_small k_all_small).binds fun _ _ _ _ _ _ us hl => match us, hl with | [_], _ => rfl⟩
    d_fits_key := ⟨_, _, fun_mk (st := s_fits_key) l_fits_key c_fits_key k_fits_key, PySem.W.mg_of X G a_fits_key, (fun_mk (st := s_fits_key) l_fits_key c_fits_key k_fits_key).binds fun _ _ _ _ _ _ us hl => match us, hl with | [_], _ => rfl⟩
    d_is_word := ⟨_, _, fun_mk (st := s_is_word) l_is_word c_is_word k_is_word, PySem.W.mg_of X G a_is_word, (fun_mk (st := s_is_word) l_is_word c_is_word k_is_word).binds fun _ _ _ _ _ _ us hl => match us, hl with | [_], _ => rfl⟩
    d_is_key := ⟨_, _, fun_mk (st := s_is_key) l_is_key c_is_key k_is_key, PySem.W.mg_of X G a_is_key, (fun_mk (st := s_is_key) l_is_key c_is_key k_is_key).binds fun _ _ _ _ _ _ us hl => match us, hl with | [_], _ => rfl⟩
    d__law_bag := ⟨_, _, fun_mk (st := s__law_bag) l__law_bag c__law_bag k__law_bag, PySem.W.mg_of X G a__law_bag, (fun_mk (st := s__law_bag) l__law_bag c__law_bag k__law_bag).binds fun _ _ _ _ _ _ us hl => match us, hl with | [_, _], _ => rfl⟩
    d__law_draw := ⟨_, _, fun_mk (st := s__law_draw) l__law_draw c__law_draw k__law_draw, PySem.W.mg_of X G a__law_draw, (fun_mk (st := s__law_draw) l__law_draw c__law_draw k__law_draw).binds fun _ _ _ _ _ _ us hl => match us, hl with | [_, _], _ => rfl⟩
    d__law_one := ⟨_, _, fun_mk (st := s__law_one) l__law_one c__law_one k__law_one, PySem.W.mg_of X G a__law_one, (fun_mk (st := s__law_one) l__law_one c__law_one k__law_one).binds fun _ _ _ _ _ _ us hl => match us, hl with | [_, _], _ => rfl⟩
    d__law_reserved := ⟨_, _, fun_mk (st := s__law_reserved) l__law_reserved c__law_reserved k__law_reserved, PySem.W.mg_of X G a__law_reserved, (fun_mk (st := s__law_reserved) l__law_reserved c__law_reserved k__law_reserved).binds fun _ _ _ _ _ _ us hl => match us, hl with | [], _ => rfl⟩
    d__law_letters := ⟨_, _, fun_mk (st := s__law_letters) l__law_letters c__law_letters k__law_letters, PySem.W.mg_of X G a__law_letters, (fun_mk (st := s__law_letters) l__law_letters c__law_letters k__law_letters).binds fun _ _ _ _ _ _ us hl => match us, hl with | [_], _ => rfl⟩
    d__law_some := ⟨_, _, fun_mk (st := s__law_some) l__law_some c__law_some k__law_some, PySem.W.mg_of X G a__law_some, (fun_mk (st := s__law_some) l__law_some c__law_some k__law_some).binds fun _ _ _ _ _ _ us hl => match us, hl with | [_], _ => rfl⟩
    d__law_is_word := ⟨_, _, fun_mk (st := s__law_is_word) l__law_is_word c__law_is_word k__law_is_word, PySem.W.mg_of X G a__law_is_word, (fun_mk (st := s__law_is_word) l__law_is_word c__law_is_word k__law_is_word).binds fun _ _ _ _ _ _ us hl => match us, hl with | [_], _ => rfl⟩
    d__law_is_key := ⟨_, _, fun_mk (st := s__law_is_key) l__law_is_key c__law_is_key k__law_is_key, PySem.W.mg_of X G a__law_is_key, (fun_mk (st := s__law_is_key) l__law_is_key c__law_is_key k__law_is_key).binds fun _ _ _ _ _ _ us hl => match us, hl with | [_], _ => rfl⟩
  }
  have F4 := fun_mk (st := s_law) l4 c4 k4
  exact ⟨PySem.W.fnOf "law" "law" (defArgs s_law) (defBody s_law) (defScope s_law) .none kV4 dc4 pm4 an4 cd4 ct4, fun s v => .of_eq rfl, fun base _ _ => ok_law F4 T⟩
theorem walk {l : PySem.W.OpenLaw} {q : Program} {loose : List Str} {XP : (Str → Option Value) → Heap → Prop} {YP : World → Heap → Prop} {d : DefRec} {K : Params → PySem.W.Frag} (hn : l.most = some 63) (hdf : d.params.defaults = [])
    (hY : ∀ (w : World) (h : Heap), YP w h → (K w.params).In h)
    (F : ∀ (w : World) (mg : Str → Option Value) (fa : Addr) (h : Heap), (K w.params).In h → h.Ns mainGlobals mg → mg d.name = some (.ref fa) →
      ∃ fd : FuncData, (∀ (s : Shared) (u : Value), BindsTo s fd ⟨[u], []⟩ [("script", u)]) ∧ ∀ base : Heap, (K w.params).In base → base.Ns mainGlobals mg → FnOk l.prog w (K w.params) mg base CX0 5 fa fd ["script"] (spLaw (K w.params))) :
    PySem.W.WalkO q loose XP YP l.row.toRowW d [] (fun f vs => PySem.call f vs) :=
  L2.walk_of (n := 63) (k := 5) (x := "script") (CX := fun _ => CX0) (sp := fun w => spLaw (K w.params)) hn (by decide) hdf ⟨rfl, by decide, by decide⟩ hY F (fun _ _ a ns hl _ hS => ⟨a, ns, rfl, hS, hl, fun _ => rfl⟩) fun _ _ _ _ _ z => z
end Kn
open PySem PySem.W PyProof.Rows
set_option maxRecDepth 100000 in
set_option maxHeartbeats 0 in
theorem PySem.Challenge.cw_earlyfields_k01_words_and_keys_holds : PySem.Challenge.rw_earlyfields_k01_words_and_keys.Holds := by
  w_on; o_law; k_head; (case hw => w_witness2)
  k_fill
  refine Kn.walk (l := PySem.Challenge.rw_earlyfields_k01_words_and_keys) rfl rfl (fun w h Y => PySem.W.kIn_of Y) ?F
  case F =>
    intro w mg fa h KX G hmg
    refine' Kn.all_mk KX G hmg ?zb_abs ?zb_bool ?zb_enumerate ?zb_int ?zb_isinstance ?zb_len ?zb_max ?zb_min ?zb_range ?zb_str ?zc_HEADS ?lc_HEADS ?vc_HEADS ?zc_LONGEST ?zc_RESERVED ?lc_RESERVED ?vc_RESERVED ?zc_SMALL ?a_fits_word ?l_fits_word ?c_fits_word ?k_fits_word ?a_all_small ?l_all_small ?c_all_small ?k_all_small ?a_fits_key ?l_fits_key ?c_fits_key ?k_fits_key ?a_is_word ?l_is_word ?c_is_word ?k_is_word ?a_is_key ?l_is_key ?c_is_key ?k_is_key ?a__law_bag ?l__law_bag ?c__law_bag ?k__law_bag ?a__law_draw ?l__law_draw ?c__law_draw ?k__law_draw ?a__law_one ?l__law_one ?c__law_one ?k__law_one ?a__law_reserved ?l__law_reserved ?c__law_reserved ?k__law_reserved ?a__law_letters ?l__law_letters ?c__law_letters ?k__law_letters ?a__law_some ?l__law_some ?c__law_some ?k__law_some ?a__law_is_word ?l__law_is_word ?c__law_is_word ?k__law_is_word ?a__law_is_key ?l__law_is_key ?c__law_is_key ?k__law_is_key ?a4 ?l4 ?c4 ?k4
    (case zb_abs => k_is)
    (case zb_bool => k_is)
    (case zb_enumerate => k_is)
    (case zb_int => k_is)
    (case zb_isinstance => k_is)
    (case zb_len => k_is)
    (case zb_max => k_is)
    (case zb_min => k_is)
    (case zb_range => k_is)
    (case zb_str => k_is)
    (case zc_HEADS => k_is)
    (case lc_HEADS => k_is)
    (case zc_LONGEST => k_is)
    (case zc_RESERVED => k_is)
    (case lc_RESERVED => k_is)
    (case zc_SMALL => k_is)
    (case a_fits_word => k_is)
    (case l_fits_word => k_is)
    (case c_fits_word => k_is)
    (case k_fits_word => k_is)
    (case a_all_small => k_is)
    (case l_all_small => k_is)
    (case c_all_small => k_is)
    (case k_all_small => k_is)
    (case a_fits_key => k_is)
    (case l_fits_key => k_is)
    (case c_fits_key => k_is)
    (case k_fits_key => k_is)
    (case a_is_word => k_is)
    (case l_is_word => k_is)
    (case c_is_word => k_is)
    (case k_is_word => k_is)
    (case a_is_key => k_is)
    (case l_is_key => k_is)
    (case c_is_key => k_is)
    (case k_is_key => k_is)
    (case a__law_bag => k_is)
    (case l__law_bag => k_is)
    (case c__law_bag => k_is)
    (case k__law_bag => k_is)
    (case a__law_draw => k_is)
    (case l__law_draw => k_is)
    (case c__law_draw => k_is)
    (case k__law_draw => k_is)
    (case a__law_one => k_is)
    (case l__law_one => k_is)
    (case c__law_one => k_is)
    (case k__law_one => k_is)
    (case a__law_reserved => k_is)
    (case l__law_reserved => k_is)
    (case c__law_reserved => k_is)
    (case k__law_reserved => k_is)
    (case a__law_letters => k_is)
    (case l__law_letters => k_is)
    (case c__law_letters => k_is)
    (case k__law_letters => k_is)
    (case a__law_some => k_is)
    (case l__law_some => k_is)
    (case c__law_some => k_is)
    (case k__law_some => k_is)
    (case a__law_is_word => k_is)
    (case l__law_is_word => k_is)
    (case c__law_is_word => k_is)
    (case k__law_is_word => k_is)
    (case a__law_is_key => k_is)
    (case l__law_is_key => k_is)
    (case c__law_is_key => k_is)
    (case k__law_is_key => k_is)
    (case a4 => k_is)
    (case l4 => k_is)
    (case c4 => k_is)
    (case k4 => k_is)
    (case vc_HEADS => rfl)
    (case vc_RESERVED => rfl)
#print axioms PySem.Challenge.cw_earlyfields_k01_words_and_keys_holds
