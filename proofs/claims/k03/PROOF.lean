import PyProof.Rows.All
import Wide.All
import OpenK.AllK
import Wide.FinOn
import HandS.ForMost
import HandS.Wide
import HandS.IsInst
import HandS.Style
import HandS.Codes
import HandS.Walk
import HandS.ExcInit
import HandS.WordsExc
import HandS.TupMul
import HandS.TupAny
import HandS.More
import KE.GoesMore
import KE.GoesEnum
import KE.KExcIs
import HandS.ExcIs
import HandS.ExcOwn
import PyProof.ListStr
import PySem.Challenge.RW_earlyfields_k03_bodies_refused
set_option Elab.async false
set_option maxRecDepth 100000
set_option maxHeartbeats 4000000
namespace Kn
open PySem PySem.Spec PyProof.Rows L2
open C8 (Cal pe_c pe_gc)
open SX (S S_tl S_len S_cat)
def top (i : Nat) : Stmt := PySem.Challenge.pw_earlyfields_k03_bodies_refused.main.body.getD i (.Pass ⟨0, 0, 0, 0⟩)
abbrev s_BadText___init__ : Stmt := (inClass (top 2) 0)
theorem sc_BadText___init__ : FnScope ["self", "at"] ["self", "at"] (defScope s_BadText___init__) := ⟨rfl, rfl, rfl, by decide +kernel, rfl, by decide +kernel, by decide +kernel⟩
abbrev s_TooMany___init__ : Stmt := (inClass (top 3) 0)
theorem sc_TooMany___init__ : FnScope ["self", "what"] ["self", "what"] (defScope s_TooMany___init__) := ⟨rfl, rfl, rfl, by decide +kernel, rfl, by decide +kernel, by decide +kernel⟩
abbrev s_tokens_of : Stmt := (top 10)
theorem sc_tokens_of : FnScope ["text", "rows", "at", "end"] ["text"] (defScope s_tokens_of) := ⟨rfl, rfl, rfl, by decide +kernel, rfl, by decide +kernel, by decide +kernel⟩
abbrev s_token_end : Stmt := (top 11)
theorem sc_token_end : FnScope ["text", "at", "end"] ["text", "at"] (defScope s_token_end) := ⟨rfl, rfl, rfl, by decide +kernel, rfl, by decide +kernel, by decide +kernel⟩
abbrev s_is_letter : Stmt := (top 12)
theorem sc_is_letter : FnScope ["character"] ["character"] (defScope s_is_letter) := ⟨rfl, rfl, rfl, by decide +kernel, rfl, by decide +kernel, by decide +kernel⟩
abbrev s_fits_word : Stmt := (top 13)
theorem sc_fits_word : FnScope ["text"] ["text"] (defScope s_fits_word) := ⟨rfl, rfl, rfl, by decide +kernel, rfl, by decide +kernel, by decide +kernel⟩
abbrev s_fits_class : Stmt := (top 14)
theorem sc_fits_class : FnScope ["text"] ["text"] (defScope s_fits_class) := ⟨rfl, rfl, rfl, by decide +kernel, rfl, by decide +kernel, by decide +kernel⟩
abbrev s_all_small : Stmt := (top 15)
theorem sc_all_small : FnScope ["text", "character"] ["text"] (defScope s_all_small) := ⟨rfl, rfl, rfl, by decide +kernel, rfl, by decide +kernel, by decide +kernel⟩
abbrev s_Reader___init__ : Stmt := (inClass (top 21) 0)
theorem sc_Reader___init__ : FnScope ["self", "text"] ["self", "text"] (defScope s_Reader___init__) := ⟨rfl, rfl, rfl, by decide +kernel, rfl, by decide +kernel, by decide +kernel⟩
abbrev s_Reader_token : Stmt := (inClass (top 21) 1)
theorem sc_Reader_token : FnScope ["self"] ["self"] (defScope s_Reader_token) := ⟨rfl, rfl, rfl, by decide +kernel, rfl, by decide +kernel, by decide +kernel⟩
abbrev s_Reader_position : Stmt := (inClass (top 21) 2)
theorem sc_Reader_position : FnScope ["self"] ["self"] (defScope s_Reader_position) := ⟨rfl, rfl, rfl, by decide +kernel, rfl, by decide +kernel, by decide +kernel⟩
abbrev s_Reader_advance : Stmt := (inClass (top 21) 3)
theorem sc_Reader_advance : FnScope ["self", "token"] ["self"] (defScope s_Reader_advance) := ⟨rfl, rfl, rfl, by decide +kernel, rfl, by decide +kernel, by decide +kernel⟩
abbrev s_Reader_take : Stmt := (inClass (top 21) 4)
theorem sc_Reader_take : FnScope ["self", "wanted"] ["self", "wanted"] (defScope s_Reader_take) := ⟨rfl, rfl, rfl, by decide +kernel, rfl, by decide +kernel, by decide +kernel⟩
abbrev s_Reader_take_word : Stmt := (inClass (top 21) 5)
theorem sc_Reader_take_word : FnScope ["self"] ["self"] (defScope s_Reader_take_word) := ⟨rfl, rfl, rfl, by decide +kernel, rfl, by decide +kernel, by decide +kernel⟩
abbrev s_Reader_take_class : Stmt := (inClass (top 21) 6)
theorem sc_Reader_take_class : FnScope ["self"] ["self"] (defScope s_Reader_take_class) := ⟨rfl, rfl, rfl, by decide +kernel, rfl, by decide +kernel, by decide +kernel⟩
abbrev s_Reader_finish : Stmt := (inClass (top 21) 7)
theorem sc_Reader_finish : FnScope ["self"] ["self"] (defScope s_Reader_finish) := ⟨rfl, rfl, rfl, by decide +kernel, rfl, by decide +kernel, by decide +kernel⟩
abbrev s_read_body : Stmt := (top 22)
theorem sc_read_body : FnScope ["reader", "depth", "steps"] ["reader", "depth"] (defScope s_read_body) := ⟨rfl, rfl, rfl, by decide +kernel, rfl, by decide +kernel, by decide +kernel⟩
abbrev s_read_step : Stmt := (top 23)
theorem sc_read_step : FnScope ["reader", "depth", "word", "step"] ["reader", "depth"] (defScope s_read_step) := ⟨rfl, rfl, rfl, by decide +kernel, rfl, by decide +kernel, by decide +kernel⟩
abbrev s_read_if : Stmt := (top 24)
theorem sc_read_if : FnScope ["reader", "depth", "name", "first"] ["reader", "depth"] (defScope s_read_if) := ⟨rfl, rfl, rfl, by decide +kernel, rfl, by decide +kernel, by decide +kernel⟩
abbrev s_read_try : Stmt := (top 25)
theorem sc_read_try : FnScope ["reader", "depth", "first"] ["reader", "depth"] (defScope s_read_try) := ⟨rfl, rfl, rfl, by decide +kernel, rfl, by decide +kernel, by decide +kernel⟩
abbrev s_read_either : Stmt := (top 26)
theorem sc_read_either : FnScope ["reader", "depth", "blocks"] ["reader", "depth"] (defScope s_read_either) := ⟨rfl, rfl, rfl, by decide +kernel, rfl, by decide +kernel, by decide +kernel⟩
abbrev s_read_block : Stmt := (top 27)
theorem sc_read_block : FnScope ["reader", "depth"] ["reader", "depth"] (defScope s_read_block) := ⟨rfl, rfl, rfl, by decide +kernel, rfl, by decide +kernel, by decide +kernel⟩
abbrev s_read_braces : Stmt := (top 28)
theorem sc_read_braces : FnScope ["reader", "depth", "body"] ["reader", "depth"] (defScope s_read_braces) := ⟨rfl, rfl, rfl, by decide +kernel, rfl, by decide +kernel, by decide +kernel⟩
abbrev s_read_steps : Stmt := (top 30)
theorem sc_read_steps : FnScope ["text", "reader", "body"] ["text"] (defScope s_read_steps) := ⟨rfl, rfl, rfl, by decide +kernel, rfl, by decide +kernel, by decide +kernel⟩
abbrev s__law_bag : Stmt := (top 32)
theorem sc__law_bag : FnScope ["script", "at", "cell", "seed", "turn", "each"] ["script", "at"] (defScope s__law_bag) := ⟨rfl, rfl, rfl, by decide +kernel, rfl, by decide +kernel, by decide +kernel⟩
abbrev s__law_draw : Stmt := (top 33)
theorem sc__law_draw : FnScope ["bag", "many", "digit"] ["bag", "many"] (defScope s__law_draw) := ⟨rfl, rfl, rfl, by decide +kernel, rfl, by decide +kernel, by decide +kernel⟩
abbrev s__law_one : Stmt := (top 34)
theorem sc__law_one : FnScope ["bag", "some"] ["bag", "some"] (defScope s__law_one) := ⟨rfl, rfl, rfl, by decide +kernel, rfl, by decide +kernel, by decide +kernel⟩
abbrev s__law_words : Stmt := (top 35)
theorem sc__law_words : FnScope ["bag", "many", "left", "stem", "found", "turn", "is_ahead", "sign"] ["bag", "many"] (defScope s__law_words) := ⟨rfl, rfl, rfl, by decide +kernel, rfl, by decide +kernel, by decide +kernel⟩
abbrev s__law_labels : Stmt := (top 36)
theorem sc__law_labels : FnScope ["bag", "many", "left", "stem", "found", "turn"] ["bag", "many"] (defScope s__law_labels) := ⟨rfl, rfl, rfl, by decide +kernel, rfl, by decide +kernel, by decide +kernel⟩
abbrev s__law_step : Stmt := (top 37)
theorem sc__law_step : FnScope ["bag", "words", "room", "depth", "kind", "blocks", "turn"] ["bag", "words", "room", "depth"] (defScope s__law_step) := ⟨rfl, rfl, rfl, by decide +kernel, rfl, by decide +kernel, by decide +kernel⟩
abbrev s__law_body : Stmt := (top 38)
theorem sc__law_body : FnScope ["bag", "words", "room", "depth", "steps", "turn"] ["bag", "words", "room", "depth"] (defScope s__law_body) := ⟨rfl, rfl, rfl, by decide +kernel, rfl, by decide +kernel, by decide +kernel⟩
abbrev s__law_start : Stmt := (top 39)
theorem sc__law_start : FnScope ["bag", "names", "methods", "labels"] ["bag"] (defScope s__law_start) := ⟨rfl, rfl, rfl, by decide +kernel, rfl, by decide +kernel, by decide +kernel⟩
abbrev s__law_tower : Stmt := (top 40)
theorem sc__law_tower : FnScope ["bag", "names", "body", "many", "turn", "kind", "pair", "step", "blocks"] ["bag", "names", "body", "many"] (defScope s__law_tower) := ⟨rfl, rfl, rfl, by decide +kernel, rfl, by decide +kernel, by decide +kernel⟩
abbrev s__law_signs : Stmt := (top 41)
theorem sc__law_signs : FnScope ["body", "found", "step", "at", "block"] ["body"] (defScope s__law_signs) := ⟨rfl, rfl, rfl, by decide +kernel, rfl, by decide +kernel, by decide +kernel⟩
abbrev s__law_curly : Stmt := (top 42)
theorem sc__law_curly : FnScope ["body"] ["body"] (defScope s__law_curly) := ⟨rfl, rfl, rfl, by decide +kernel, rfl, by decide +kernel, by decide +kernel⟩
abbrev s__law_spread : Stmt := (top 43)
theorem sc__law_spread : FnScope ["bag", "tokens", "text", "places", "at", "token"] ["bag", "tokens"] (defScope s__law_spread) := ⟨rfl, rfl, rfl, by decide +kernel, rfl, by decide +kernel, by decide +kernel⟩
abbrev s__law_at : Stmt := (top 44)
theorem sc__law_at : FnScope ["text", "e"] ["text"] (defScope s__law_at) := ⟨rfl, rfl, rfl, by decide +kernel, rfl, by decide +kernel, by decide +kernel⟩
abbrev s__law_is_open : Stmt := (top 45)
theorem sc__law_is_open : FnScope ["tokens"] ["tokens"] (defScope s__law_is_open) := ⟨rfl, rfl, rfl, by decide +kernel, rfl, by decide +kernel, by decide +kernel⟩
abbrev s__law_wrong_word : Stmt := (top 46)
theorem sc__law_wrong_word : FnScope ["bag", "tokens", "some", "more", "at", "wrong"] ["bag", "tokens"] (defScope s__law_wrong_word) := ⟨rfl, rfl, rfl, by decide +kernel, rfl, by decide +kernel, by decide +kernel⟩
abbrev s__law_deep : Stmt := (top 47)
theorem sc__law_deep : FnScope ["tokens", "depth", "at", "token"] ["tokens"] (defScope s__law_deep) := ⟨rfl, rfl, rfl, by decide +kernel, rfl, by decide +kernel, by decide +kernel⟩
abbrev s__law_other_end : Stmt := (top 48)
theorem sc__law_other_end : FnScope ["tokens", "at", "by", "depth", "turn"] ["tokens", "at", "by"] (defScope s__law_other_end) := ⟨rfl, rfl, rfl, by decide +kernel, rfl, by decide +kernel, by decide +kernel⟩
abbrev s__law_left_out : Stmt := (top 49)
theorem sc__law_left_out : FnScope ["bag", "tokens", "found", "at", "token", "end", "first"] ["bag", "tokens"] (defScope s__law_left_out) := ⟨rfl, rfl, rfl, by decide +kernel, rfl, by decide +kernel, by decide +kernel⟩
abbrev s__law_spoiled : Stmt := (top 50)
theorem sc__law_spoiled : FnScope ["bag", "tokens", "kind", "at", "found", "some", "cut", "more"] ["bag", "tokens"] (defScope s__law_spoiled) := ⟨rfl, rfl, rfl, by decide +kernel, rfl, by decide +kernel, by decide +kernel⟩
abbrev s_law : Stmt := (top 51)
theorem sc_law : FnScope ["script", "value", "at", "bag", "words", "many", "body", "tokens", "wrong", "text", "places", "deep"] ["script"] (defScope s_law) := ⟨rfl, rfl, rfl, by decide +kernel, rfl, by decide +kernel, by decide +kernel⟩
/-! ### 0. common words of our own -/
/-- a def of the module behind the top, under its name -/
structure Dfn (K : PySem.W.Frag) (mg : Str → Option Value) (x : Str) (st : Stmt) (ps : List Str) : Prop where
  ex : ∃ (f : Addr) (fd : FuncData), Fun K x x st f fd ∧ mg x = some (.ref f) ∧ Binds K fd ps []
theorem vals_of_abs : ∀ (us : List Value) (vs : List V), us.map absV = vs.map some → Vals vs us
  | [], [], _ => .nil
  | [], _ :: _, h => by cases h
  | _ :: _, [], h => by cases h
  | u :: us, v :: vs, h => by
    rw [List.map_cons, List.map_cons] at h
    injection h with h1 h2
    refine .cons ?_ (vals_of_abs us vs h2)
    cases u <;> first | (cases h1; rfl) | (cases h1; exact ⟨_, rfl⟩) | cases h1
section
variable {P : Program} {w : World} {K : PySem.W.Frag} {mg : Str → Option Value} {base : Heap}
theorem cal_of {x : Str} {st : Stmt} {N ps : List Str} {k : Nat} {sp : Sp} (D : Dfn K mg x st ps) (S : FnScope N ps (defScope st)) (len : ∀ vs H Q E, sp vs H Q E → vs.length = ps.length)
    (hbody : ∀ (f : Addr) (cdv : Value) (A : Around) (outer : List Env) (s : Shared) (H : Hp) (vs : List V) (Q : VK) (E : XK), Room k (A.deeper (envOfC x (defScope st) s.heap.objs.size f cdv)) → sp vs H Q E →
      ∃ t, PSs (cxOf CX0 P w K mg base N x (defScope st) f cdv A outer s H E).nox (defBody st) t ∧ t { nx := fun _ H' => Q .non H', rt := Q } (start N vs) H) : C8.Cal P w K mg base (k + 1) x sp [] := by
  obtain ⟨f, fd, F, hm, b⟩ := D.ex
  exact ⟨f, fd, ps, [], F.ok S len fun cdv A outer s H vs Q E hr h => hbody f cdv A outer s H vs Q E hr h, hm, F.kp, b, .nil⟩
end
section
variable {X : Cx} {k j : Nat} {x : Str} {sp : Sp} {p pos : Pos}
/-- f() -/
theorem pe_c0 {dvs : List V} (c : C8.Cal X.prog X.w X.K X.mg X.base k x sp dvs) (hr : Room j X.A) (hk : k ≤ j) (hg : Gl X x) (hdb : (x == ("__debug__" : Str)) = false := by decide) :
    PE X (.Call (.Name x p) [] [] pos) (tCall sp dvs E0 tNil) := by
  obtain ⟨f, fd, ps, ds, F, hm, kp, b, d⟩ := c.ex
  exact pe_call0 F (hr.mono hk) hg hm kp b d pass0 hdb
end
/-- within a comprehension the written part is said, for its own context is not known outside -/
theorem bmK {X : Cx} {K : PySem.W.Frag} {e : Expr} {to : TE} {t : TA} {T : String} {r : V → List V → Hp → VK → Prop} (hK : X.K = K) (h : PE X e (tBM X.K T r to t)) : PE X e (tBM K T r to t) := hK ▸ h

/-! ### 0b. classes, exceptions of our own, defs that raise -/
structure ExI (K : PySem.W.Frag) (C : Addr) (qual : Str) (st : Stmt) (ps : List Str) : Prop where
  ex : ∃ (f : Addr) (fd : FuncData), PySem.W.findIn K (.ref C) "__init__" = some (some (.ref f)) ∧ PySem.W.typeIn K (.ref f) = some (.type "function") ∧ Fun K "__init__" qual st f fd ∧ Binds K fd ps []
structure Ini (K : PySem.W.Frag) (C : Addr) (qual : Str) (st : Stmt) (ps : List Str) : Prop where
  ex : ∃ (f : Addr) (fd : FuncData), Mk K C f ∧ Fun K "__init__" qual st f fd ∧ Binds K fd ps []
structure Mth (K : PySem.W.Frag) (C : Addr) (m qual : Str) (st : Stmt) (ps : List Str) : Prop where
  ex : ∃ (f : Addr) (fd : FuncData), Meth K C m f ∧ Fun K m qual st f fd ∧ Binds K fd ps []
section
variable (P : Program) (w : World) (K : PySem.W.Frag) (mg : Str → Option Value) (base : Heap)
structure CalX (k : Nat) (x : Str) (sp : Sp) : Prop where
  ex : ∃ (f : Addr) (fd : FuncData) (ps : List Str), FnOk P w K mg base (L2.CX P w) k f fd ps sp ∧ mg x = some (.ref f) ∧ PySem.W.keepIn K (.ref f) = true ∧ Binds K fd ps []
structure MetX (k : Nat) (C : Addr) (m : Str) (sp : Sp) : Prop where
  ex : ∃ (f : Addr) (fd : FuncData) (ps : List Str), Cls K C ∧ Meth K C m f ∧ FnOk P w K mg base (L2.CX P w) k f fd ps sp ∧ Binds K fd ps []
structure MakX (k : Nat) (C : Addr) (sp : Sp) : Prop where
  ex : ∃ (f : Addr) (fd : FuncData) (ps : List Str), Mk K C f ∧ FnOk P w K mg base (L2.CX P w) k f fd ps sp ∧ Binds K fd ps []
structure ExIni (k : Nat) (C : Addr) (sp : Sp) : Prop where
  ex : ∃ (f : Addr) (fd : FuncData) (ps : List Str), PySem.W.findIn K (.ref C) "__init__" = some (some (.ref f)) ∧ PySem.W.typeIn K (.ref f) = some (.type "function") ∧ FnOk P w K mg base CX0 k f fd ps sp ∧ Binds K fd ps []
end
section
variable {P : Program} {w : World} {K : PySem.W.Frag} {mg : Str → Option Value} {base : Heap}
/-- what a body's proof is, nothing raised | raised -/
def Body0 (P : Program) (w : World) (K : PySem.W.Frag) (mg : Str → Option Value) (base : Heap) (k : Nat) (qual : Str) (st : Stmt) (N : List Str) (sp : Sp) : Prop :=
  ∀ (f : Addr) (cdv : Value) (A : Around) (outer : List Env) (s : Shared) (H : Hp) (vs : List V) (Q : VK) (E : XK), Room k (A.deeper (envOfC qual (defScope st) s.heap.objs.size f cdv)) → sp vs H Q E →
    ∃ t, PSs (cxOf CX0 P w K mg base N qual (defScope st) f cdv A outer s H E).nox (defBody st) t ∧ t { nx := fun _ H' => Q .non H', rt := Q } (start N vs) H
def BodyX (P : Program) (w : World) (K : PySem.W.Frag) (mg : Str → Option Value) (base : Heap) (k : Nat) (qual : Str) (st : Stmt) (N : List Str) (sp : Sp) : Prop :=
  ∀ (f : Addr) (cdv : Value) (A : Around) (outer : List Env) (s : Shared) (H : Hp) (vs : List V) (Q : VK) (E : XK), Room k (A.deeper (envOfC qual (defScope st) s.heap.objs.size f cdv)) → sp vs H Q E →
    ∃ t, PSs (cxOf (L2.CX P w) P w K mg base N qual (defScope st) f cdv A outer s H E) (defBody st) t ∧ t { nx := fun _ H' => Q .non H', rt := Q } (start N vs) H
theorem met_of {C : Addr} {m qual : Str} {st : Stmt} {N ps : List Str} {k : Nat} {sp : Sp} (c : Cls K C) (D : Mth K C m qual st ps) (S : FnScope N ps (defScope st)) (len : ∀ vs H Q E, sp vs H Q E → vs.length = ps.length)
    (hb : Body0 P w K mg base k qual st N sp) : C8.Met P w K mg base (k + 1) C m sp [] := by
  obtain ⟨f, fd, M, F, b⟩ := D.ex
  exact ⟨f, fd, ps, [], c, M, F.ok S len fun cdv A outer s H vs Q E hr h => hb f cdv A outer s H vs Q E hr h, b, .nil⟩
theorem metX_of {C : Addr} {m qual : Str} {st : Stmt} {N ps : List Str} {k : Nat} {sp : Sp} (c : Cls K C) (D : Mth K C m qual st ps) (S : FnScope N ps (defScope st)) (len : ∀ vs H Q E, sp vs H Q E → vs.length = ps.length)
    (hb : BodyX P w K mg base k qual st N sp) : MetX P w K mg base (k + 1) C m sp := by
  obtain ⟨f, fd, M, F, b⟩ := D.ex
  exact ⟨f, fd, ps, c, M, F.okX S len fun cdv A outer s H vs Q E hr h => hb f cdv A outer s H vs Q E hr h, b⟩
theorem calX_of {x : Str} {st : Stmt} {N ps : List Str} {k : Nat} {sp : Sp} (D : Dfn K mg x st ps) (S : FnScope N ps (defScope st)) (len : ∀ vs H Q E, sp vs H Q E → vs.length = ps.length)
    (hb : BodyX P w K mg base k x st N sp) : CalX P w K mg base (k + 1) x sp := by
  obtain ⟨f, fd, F, hm, b⟩ := D.ex
  exact ⟨f, fd, ps, F.okX S len fun cdv A outer s H vs Q E hr h => hb f cdv A outer s H vs Q E hr h, hm, F.kp, b⟩
theorem makX_of {C : Addr} {qual : Str} {st : Stmt} {N ps : List Str} {k : Nat} {sp : Sp} (D : Ini K C qual st ps) (S : FnScope N ps (defScope st)) (len : ∀ vs H Q E, sp vs H Q E → vs.length = ps.length)
    (hb : BodyX P w K mg base k qual st N sp) : MakX P w K mg base (k + 1) C sp := by
  obtain ⟨f, fd, M, F, b⟩ := D.ex
  exact ⟨f, fd, ps, M, F.okX S len fun cdv A outer s H vs Q E hr h => hb f cdv A outer s H vs Q E hr h, b⟩
theorem exi_of {C : Addr} {qual : Str} {st : Stmt} {N ps : List Str} {k : Nat} {sp : Sp} (D : ExI K C qual st ps) (S : FnScope N ps (defScope st)) (len : ∀ vs H Q E, sp vs H Q E → vs.length = ps.length)
    (hb : Body0 P w K mg base k qual st N sp) : ExIni P w K mg base (k + 1) C sp := by
  obtain ⟨f, fd, h1, h2, F, b⟩ := D.ex
  exact ⟨f, fd, ps, h1, h2, F.ok S len fun cdv A outer s H vs Q E hr h => hb f cdv A outer s H vs Q E hr h, b⟩
end
section
variable {X : Cx} {k j : Nat} {C : Addr} {x m f : Str} {sp : Sp} {E : XK} {p pos apos pos2 : Pos} {e o : Expr} {es : List Expr} {ta : TE} {t : TA} {W : WX}
theorem pe_cX (c : CalX X.prog X.w X.K X.mg X.base k x sp) (hr : Room j X.A) (hk : k ≤ j) (hg : Gl X x) (hx : Passes (L2.CX X.prog X.w) X E) (ha : PA X (e :: es) t) (hdb : (x == ("__debug__" : Str)) = false := by decide)
    (he : starEach (e :: es) X.env = (false, eval e X.env) :: starEach es X.env := by rfl) (hpl : (backTo pos (starEach es X.env)).any (·.1) = false := by rfl) : PE X (.Call (.Name x p) (e :: es) [] pos) (tCall sp [] E t) := by
  obtain ⟨f, fd, ps, F, hm, kp, b⟩ := c.ex
  exact pe_call F (hr.mono hk) hg hm kp b .nil hx ha hdb he hpl
theorem pe_mkX (c : MakX X.prog X.w X.K X.mg X.base k C sp) (hr : Room j X.A) (hk : k + 1 ≤ j) (hg : Gl X x) (hm : X.mg x = some (.ref C)) (hx : Passes (L2.CX X.prog X.w) X E) (ha : PA X (e :: es) t) (hdb : (x == ("__debug__" : Str)) = false := by decide)
    (he : starEach (e :: es) X.env = (false, eval e X.env) :: starEach es X.env := by rfl) (hpl : (backTo pos (starEach es X.env)).any (·.1) = false := by rfl) : PE X (.Call (.Name x p) (e :: es) [] pos) (tMake C sp [] E t) := by
  obtain ⟨f, fd, ps, M, F, b⟩ := c.ex
  exact pe_make M F (hr.mono hk) hg hm b .nil hx ha hdb he hpl
theorem pe_mtX {pl : Sem Bool} (c : MetX X.prog X.w X.K X.mg X.base k C m sp) (hr : Room j X.A) (hk : k ≤ j) (he : PE X o ta) (hx : Passes (L2.CX X.prog X.w) X E) (ha : PA X (e :: es) t)
    (hst : starEach (e :: es) X.env = (false, eval e X.env) :: starEach es X.env := by rfl) (hpl : (backTo pos (starEach es X.env)).any (·.1) = false := by rfl)
    (ht : eval (.Call (.Attribute o m apos) (e :: es) [] pos) X.env = (do
      let ov ← eval o X.env; standAt apos.atName; let (f, first) ← holding [ov] (getMethod ov m pl); callWith pos f first (backTo pos (starEach (e :: es) X.env)) (backToKw pos (keywordEach [] X.env))) := by rfl) :
    PE X (.Call (.Attribute o m apos) (e :: es) [] pos) (tMeth C m sp [] E ta t) := by
  obtain ⟨f, fd, ps, hc, hm, F, b⟩ := c.ex
  exact pe_meth (pl := pl) he hc hm F (hr.mono hk) b .nil hx ha hst hpl ht
theorem pe_mtX0 {pl : Sem Bool} (c : MetX X.prog X.w X.K X.mg X.base k C m sp) (hr : Room j X.A) (hk : k ≤ j) (he : PE X o ta) (hx : Passes (L2.CX X.prog X.w) X E)
    (ht : eval (.Call (.Attribute o m apos) [] [] pos) X.env = (do
      let ov ← eval o X.env; standAt apos.atName; let (f, first) ← holding [ov] (getMethod ov m pl); callWith pos f first (backTo pos (starEach [] X.env)) (backToKw pos (keywordEach [] X.env))) := by rfl) :
    PE X (.Call (.Attribute o m apos) [] [] pos) (tMeth C m sp [] E ta tNil) := by
  obtain ⟨f, fd, ps, hc, hm, F, b⟩ := c.ex
  exact pe_meth0 (pl := pl) he hc hm F (hr.mono hk) b .nil hx ht
/-- the __init__ of an error with one field -/
def spExI (C : Addr) (f : Str) : Sp := fun vs H Q _ => ∃ (a : Addr) (v : V), vs = [.ref a, v] ∧ H a = some (exo a C none) ∧ ∀ dx, H dx = none → dx ≠ a → Q .non (upd (upd H dx (exd dx [(f, v)])) a (exo a C (some dx)))
/-- raise X(e) -/
theorem ps_bad (hc : X.calm = true) (tk : Takes X W) (T : OexC X.K C) (hm : X.mg x = some (.ref C)) (c : ExIni X.prog X.w X.K X.mg X.base k C (spExI C f)) (hr : Room j X.A) (hk : k + 1 ≤ j) (hg : Gl X x) (ha : PA X (e :: []) t)
    (hdb : (x == ("__debug__" : Str)) = false := by decide) (he : starEach (e :: []) X.env = (false, eval e X.env) :: starEach [] X.env := by rfl) (hpl : (backTo pos (starEach [] X.env)).any (·.1) = false := by rfl) :
    PS X (.Raise (some (.Call (.Name x p) (e :: []) [] pos)) none pos2) (fun _ σ H => tMkO C (spExI C f) [] t σ H fun cls d H' => W cls d σ H') := by
  obtain ⟨g, fd, ps, iC, tI, F, b⟩ := c.ex
  exact ps_raise hc tk (pmk_oex T iC tI F (hr.mono hk) b .nil pass0 hg hm ha hdb he hpl)
theorem bad_k {H1 : Hp} {v : V} {Q : XK} (h : ∀ d H', H1 d = none → Same H1 H' → H' d = some (.xd [(f, v)]) → Q (.ref C) (some d) H') :
    [v].length ≤ 1000 ∧ ∀ a, H1 a = none → spExI C f (.ref a :: ([v] ++ [])) (upd H1 a (exo a C none))
      (fun u H2 => u = .non ∧ ∃ (d : Addr) (fs : List (Str × V)), H2 a = some (exo a C (some d)) ∧ H2 d = some (exd d fs) ∧ H1 d = none ∧ Q (.ref C) (some d) (upd (del H2 a) d (.xd fs))) (fun _ _ _ => False) := by
  refine ⟨by show 1 ≤ 1000; decide, fun a ha => ⟨a, v, rfl, upd_same, fun dx hdx ne => ⟨rfl, dx, [(f, v)], upd_same, by rw [upd_ne ne]; exact upd_same, ?_, ?_⟩⟩⟩
  · rw [upd_ne ne] at hdx
    exact hdx
  · rw [upd_ne ne] at hdx
    refine h dx _ hdx (fun b o e => ?_) upd_same
    have hb : b ≠ a := ne_of_none e ha
    rw [upd_ne (ne_of_none e hdx), del_ne hb, upd_ne hb, upd_ne (ne_of_none e hdx), upd_ne hb]
    exact e
end
theorem putF_ne {f g : Str} {v x : V} {l : List (Str × V)} (h : ¬ g = f) : putF f v ((g, x) :: l) = (g, x) :: putF f v l := if_neg h
theorem putF_eq {f : Str} {v x : V} {l : List (Str × V)} : putF f v ((f, x) :: l) = (f, v) :: l := if_pos rfl
theorem look_ne {f g : Str} {x : V} {l : List (Str × V)} (h : ¬ f = g) : ((g, x) :: l).lookup f = l.lookup f := by
  have e : (f == g) = false := by simpa using h
  simp [List.lookup, e]
theorem look_eq {f : Str} {x : V} {l : List (Str × V)} : ((f, x) :: l).lookup f = some x := by simp [List.lookup]
theorem putF_len (f : Str) (v : V) : ∀ l : List (Str × V), (putF f v l).length ≤ l.length + 1
  | [] => Nat.le_refl _
  | (g, x) :: l => by
    unfold putF
    split
    · simp
    · have := putF_len f v l
      simp
      omega
theorem few (f : Str) (v : V) {l : List (Str × V)} {n : Nat} (h : l.length ≤ n) : (putF f v l).length ≤ n + 1 := Nat.le_trans (putF_len f v l) (Nat.succ_le_succ h)

/-! ### 0c. further rules: list(text), tuple * 0, tuple * 1 -/
theorem tup_mul01 (l : Addr) (items : Array Value) (n : Nat) (dd : Option Addr) (sl : Array (Option Value)) (u : Tok) (ne : items.isEmpty = false) :
    Meets (Builtin.«tuple.__mul__» ⟨[.ref l, .int 1 u], []⟩) (fun _ R s => s.heap.get? l = some { cls := .type "tuple", dict := dd, data := .seq items n, slots := sl } ∧ R (.ok (.ret (Value.ref l))) s) :=
  .of_wp fun prog w A R s h => by
    obtain ⟨hp, g, d, tk, os⟩ := s
    obtain ⟨hl, h⟩ := h
    have f1 := AutoSeq1.idx_int
    wp_walk using wpAny_loadPart' hl
    exact ⟨_, rfl, h⟩
theorem tup_mul00 (l : Addr) (items : Array Value) (n : Nat) (dd : Option Addr) (sl : Array (Option Value)) (u : Tok) (ne : items.isEmpty = false) :
    Meets (Builtin.«tuple.__mul__» ⟨[.ref l, .int 0 u], []⟩) (fun _ R s => s.heap.get? l = some { cls := .type "tuple", dict := dd, data := .seq items n, slots := sl } ∧
      R (.ok (.ret (Value.ref s.heap.objs.size))) { s with heap := s.heap.push { cls := Value.type "tuple", data := Data.seq #[] } }) :=
  .of_wp fun prog w A R s h => by
    obtain ⟨hp, g, d, tk, os⟩ := s
    obtain ⟨hl, h⟩ := h
    have f1 := AutoSeq1.idx_int
    wp_walk using wpAny_loadPart' hl
    exact ⟨_, rfl, h⟩
theorem vals_ix : ∀ (xs : List V) (us : List Value), xs.length = us.length → (∀ (j : Nat) (x : V) (u : Value), xs[j]? = some x → us[j]? = some u → RelV x u) → Vals xs us
  | [], [], _, _ => .nil
  | [], _ :: _, h, _ => by cases h
  | _ :: _, [], h, _ => by cases h
  | x :: xs, u :: us, h, k => .cons (k 0 x u rfl rfl) (vals_ix xs us (Nat.succ.inj h) fun j y v a b => k (j + 1) y v a b)
/-- xs * k, k nought or one -/
def rRep01 (K : PySem.W.Frag) : R2 := fun x y H Q => ∃ l k xs, x = .ref l ∧ y = .int k ∧ SqT K H l xs ∧ xs ≠ [] ∧ 0 ≤ k ∧ k ≤ 1 ∧ (k = 1 → Q (.ref l) H) ∧ (k = 0 → ∀ p, H p = none → Q (.ref p) (upd H p (.tup [])))
section
variable {X : Cx}
theorem call_listS (hc : X.calm = true) : CallR X (.type "list") (fun xs H Q => ∃ z, xs = [.str z] ∧ z.length ≤ sizeLine ∧ ∀ p, H p = none → Q (.ref p) (upd H p (.lst (z.cps.toList.map fun c => V.str ⟨#[c]⟩)))) := by
  intro pins s σ H xs us Q I r h
  obtain ⟨z, rfl, hz, q⟩ := h
  obtain ⟨u, rfl, t, rfl⟩ := vals1 r
  refine call_list_str (I.ok.hd hc) z t (fun h' tk acc' c' kp e it => ?_) hz
  refine ⟨.ref s.heap.objs.size, _, I.laid (t' := tk) kp (Nat.le_refl _) (show ObjOk X.prog X.w _ h' _ (.lst (z.cps.toList.map fun c => V.str ⟨#[c]⟩)) from ⟨by rw [List.length_map, Array.length_toList]; exact hz, acc'.toList, c', ?_, by simpa using e⟩), rfl, q _ (I.hok.fresh (Nat.le_refl _))⟩
  obtain ⟨i1, i2⟩ := it
  refine vals_ix _ _ (by rw [List.length_map, Array.length_toList, Array.length_toList, i1]) fun j x u a b => ?_
  obtain ⟨c, v, hc', rfl⟩ := i2 j u (by rw [← Array.getElem?_toList]; exact b)
  rw [List.getElem?_map, Array.getElem?_toList, hc'] at a
  cases a
  exact ⟨v, rfl⟩
theorem op_rep01 : OpR X (binaryOp .Mult) (rRep01 X.K) := by
  intro pins s σ H x y v u Q I rx ry h
  obtain ⟨l, k, xs, rfl, rfl, hT, hne, h0, h1, q1, q0⟩ := h
  cases rx
  obtain ⟨t, rfl⟩ := ry
  obtain ⟨its, r, ⟨⟨cls, dd, data, sl⟩, ho, hc, n, hd⟩, hs⟩ := I.tuple hT
  simp only at hc hd
  subst hc hd
  have hle : its.length = xs.length := r.length.symm
  have hi : its.toArray.isEmpty = false := by
    cases its with
    | nil => exact absurd (List.eq_nil_of_length_eq_zero hle.symm) hne
    | cons a b => rfl
  refine wpAny_binaryOp_repeat_ref (T := "tuple") (U := "int") (by decide) ⟨_, ho, rfl⟩ (fun s' => typeIs_int s' k t) noFill_tuple_mul F.fills_int_mul F.slot_int_rmul repeat_tuple F.slot_int_index.lookup
    (call_meets F.slot_int_rmul (typeIs_int s k t) F.entry_int_rmul (F.args_int_rmul_2 _ _) (int_rmul_tuple k t l its.toArray n dd sl) ⟨ho, rfl, ⟨_, ho, rfl⟩, ?_⟩)
  by_cases e : k = 1
  · subst e
    exact call_meets F.slot_tuple_mul ⟨_, ho, rfl⟩ F.entry_tuple_mul (F.args_tuple_mul_2 _ _) (tup_mul01 l its.toArray n dd sl t hi) ⟨ho, .ref l, H, I, rfl, q1 rfl⟩
  · have e : k = 0 := by omega
    subst e
    refine call_meets F.slot_tuple_mul ⟨_, ho, rfl⟩ F.entry_tuple_mul (F.args_tuple_mul_2 _ _) (tup_mul00 l its.toArray n dd sl t hi) ⟨ho, ?_⟩
    refine ⟨.ref s.heap.objs.size, _, I.laid (t' := s.toks) (o := .tup []) (fun b ob q => Heap.get?_push_of_some _ q) (Nat.le_refl _) ?_, rfl, q0 rfl _ (I.hok.fresh (Nat.le_refl _))⟩
    exact ⟨Nat.zero_le _, [], .nil, IsTup.new _ _⟩
end

def L_RESERVED : List V := [.str "class", .str "shared", .str "promise", .str "value", .str "init", .str "method", .str "getter", .str "setter", .str "chained", .str "final", .str "set", .str "keep", .str "read", .str "look", .str "call", .str "super", .str "of", .str "make", .str "fail", .str "try", .str "catch", .str "if", .str "else", .str "either", .str "or", .str "loop"]
def L_STEP_WORDS : List V := [.str "set", .str "keep", .str "read", .str "look", .str "call", .str "of", .str "make", .str "super", .str "fail", .str "loop", .str "if", .str "try", .str "either"]
def L_WITH_CLASS : List V := [.str "of", .str "make"]
def L_WITH_WORD : List V := [.str "set", .str "keep", .str "read", .str "look", .str "call"]
structure Addrs where
  C_RESERVED : Addr
  C_STEP_WORDS : Addr
  C_WITH_CLASS : Addr
  C_WITH_WORD : Addr
  C_EarlyError : Addr
  C_BadText : Addr
  C_TooMany : Addr
  C_Reader : Addr
structure Txt (K : PySem.W.Frag) (mg : Str → Option Value) (Z : Addrs) : Prop where
  b_abs : mg "abs" = none
  b_enumerate : mg "enumerate" = none
  b_int : mg "int" = none
  b_isinstance : mg "isinstance" = none
  b_len : mg "len" = none
  b_list : mg "list" = none
  b_max : mg "max" = none
  b_min : mg "min" = none
  b_range : mg "range" = none
  b_str : mg "str" = none
  b_tuple : mg "tuple" = none
  g_BLANKS : ∃ u, mg "BLANKS" = some u ∧ RelV (.str " \n") u
  g_CAPITAL : ∃ u, mg "CAPITAL" = some u ∧ RelV (.str "ABCDEFGHIJKLMNOPQRSTUVWXYZ") u
  g_DEEPEST : ∃ u, mg "DEEPEST" = some u ∧ RelV (.int 6) u
  g_LONGEST : ∃ u, mg "LONGEST" = some u ∧ RelV (.int 8) u
  g_RESERVED : ∃ u, mg "RESERVED" = some u ∧ RelV (.ref Z.C_RESERVED) u
  t_RESERVED : ∀ H : Hp, SqT K H Z.C_RESERVED L_RESERVED
  g_SMALL : ∃ u, mg "SMALL" = some u ∧ RelV (.str "abcdefghijklmnopqrstuvwxyz") u
  g_STEP_WORDS : ∃ u, mg "STEP_WORDS" = some u ∧ RelV (.ref Z.C_STEP_WORDS) u
  t_STEP_WORDS : ∀ H : Hp, SqT K H Z.C_STEP_WORDS L_STEP_WORDS
  g_WITH_CLASS : ∃ u, mg "WITH_CLASS" = some u ∧ RelV (.ref Z.C_WITH_CLASS) u
  t_WITH_CLASS : ∀ H : Hp, SqT K H Z.C_WITH_CLASS L_WITH_CLASS
  g_WITH_WORD : ∃ u, mg "WITH_WORD" = some u ∧ RelV (.ref Z.C_WITH_WORD) u
  t_WITH_WORD : ∀ H : Hp, SqT K H Z.C_WITH_WORD L_WITH_WORD
  k_EarlyError : mg "EarlyError" = some (.ref Z.C_EarlyError)
  k_BadText : mg "BadText" = some (.ref Z.C_BadText)
  ec_BadText : ExcC K Z.C_BadText
  te_BadText : PySem.W.exmOne K (.ref Z.C_BadText) (.ref Z.C_BadText) = some true
  x_BadText : OexC K Z.C_BadText
  n_BadText_at : PySem.W.findIn K (.ref Z.C_BadText) "at" = some none
  k_TooMany : mg "TooMany" = some (.ref Z.C_TooMany)
  x_TooMany : OexC K Z.C_TooMany
  n_TooMany_what : PySem.W.findIn K (.ref Z.C_TooMany) "what" = some none
  k_Reader : mg "Reader" = some (.ref Z.C_Reader)
  cl_Reader : Cls K Z.C_Reader
  n_Reader_tokens : NoAttr K Z.C_Reader "tokens"
  n_Reader_length : NoAttr K Z.C_Reader "length"
  n_Reader_place : NoAttr K Z.C_Reader "place"
  kit_BadText_EarlyError : PySem.W.kitOne K (.ref Z.C_BadText) (.ref Z.C_EarlyError) = some true
  kit_BadText_TooMany : PySem.W.kitOne K (.ref Z.C_BadText) (.ref Z.C_TooMany) = some false
  d_BadText___init__ : ExI K Z.C_BadText "BadText.__init__" s_BadText___init__ ["self", "at"]
  d_TooMany___init__ : ExI K Z.C_TooMany "TooMany.__init__" s_TooMany___init__ ["self", "what"]
  d_tokens_of : Dfn K mg "tokens_of" s_tokens_of ["text"]
  d_token_end : Dfn K mg "token_end" s_token_end ["text", "at"]
  d_is_letter : Dfn K mg "is_letter" s_is_letter ["character"]
  d_fits_word : Dfn K mg "fits_word" s_fits_word ["text"]
  d_fits_class : Dfn K mg "fits_class" s_fits_class ["text"]
  d_all_small : Dfn K mg "all_small" s_all_small ["text"]
  d_Reader___init__ : Ini K Z.C_Reader "Reader.__init__" s_Reader___init__ ["self", "text"]
  d_Reader_token : Mth K Z.C_Reader "token" "Reader.token" s_Reader_token ["self"]
  d_Reader_position : Mth K Z.C_Reader "position" "Reader.position" s_Reader_position ["self"]
  d_Reader_advance : Mth K Z.C_Reader "advance" "Reader.advance" s_Reader_advance ["self"]
  d_Reader_take : Mth K Z.C_Reader "take" "Reader.take" s_Reader_take ["self", "wanted"]
  d_Reader_take_word : Mth K Z.C_Reader "take_word" "Reader.take_word" s_Reader_take_word ["self"]
  d_Reader_take_class : Mth K Z.C_Reader "take_class" "Reader.take_class" s_Reader_take_class ["self"]
  d_Reader_finish : Mth K Z.C_Reader "finish" "Reader.finish" s_Reader_finish ["self"]
  d_read_body : Dfn K mg "read_body" s_read_body ["reader", "depth"]
  d_read_step : Dfn K mg "read_step" s_read_step ["reader", "depth"]
  d_read_if : Dfn K mg "read_if" s_read_if ["reader", "depth"]
  d_read_try : Dfn K mg "read_try" s_read_try ["reader", "depth"]
  d_read_either : Dfn K mg "read_either" s_read_either ["reader", "depth"]
  d_read_block : Dfn K mg "read_block" s_read_block ["reader", "depth"]
  d_read_braces : Dfn K mg "read_braces" s_read_braces ["reader", "depth"]
  d_read_steps : Dfn K mg "read_steps" s_read_steps ["text"]
  d__law_bag : Dfn K mg "_law_bag" s__law_bag ["script", "at"]
  d__law_draw : Dfn K mg "_law_draw" s__law_draw ["bag", "many"]
  d__law_one : Dfn K mg "_law_one" s__law_one ["bag", "some"]
  d__law_words : Dfn K mg "_law_words" s__law_words ["bag", "many"]
  d__law_labels : Dfn K mg "_law_labels" s__law_labels ["bag", "many"]
  d__law_step : Dfn K mg "_law_step" s__law_step ["bag", "words", "room", "depth"]
  d__law_body : Dfn K mg "_law_body" s__law_body ["bag", "words", "room", "depth"]
  d__law_start : Dfn K mg "_law_start" s__law_start ["bag"]
  d__law_tower : Dfn K mg "_law_tower" s__law_tower ["bag", "names", "body", "many"]
  d__law_signs : Dfn K mg "_law_signs" s__law_signs ["body"]
  d__law_curly : Dfn K mg "_law_curly" s__law_curly ["body"]
  d__law_spread : Dfn K mg "_law_spread" s__law_spread ["bag", "tokens"]
  d__law_at : Dfn K mg "_law_at" s__law_at ["text"]
  d__law_is_open : Dfn K mg "_law_is_open" s__law_is_open ["tokens"]
  d__law_wrong_word : Dfn K mg "_law_wrong_word" s__law_wrong_word ["bag", "tokens"]
  d__law_deep : Dfn K mg "_law_deep" s__law_deep ["tokens"]
  d__law_other_end : Dfn K mg "_law_other_end" s__law_other_end ["tokens", "at", "by"]
  d__law_left_out : Dfn K mg "_law_left_out" s__law_left_out ["bag", "tokens"]
  d__law_spoiled : Dfn K mg "_law_spoiled" s__law_spoiled ["bag", "tokens"]
/-! ### 1. heaps: what stays, but for one bag -/
def Upto (b : Addr) (H H' : Hp) : Prop := ∀ c o, c ≠ b → H c = some o → H' c = some o
def BagAt (H : Hp) (b : Addr) : Prop := ∃ x y : Int, 0 ≤ x ∧ H b = some (.lst [.int x, .int y])
theorem Upto.refl (b : Addr) (H : Hp) : Upto b H H := fun _ _ _ e => e
theorem Upto.trans {b : Addr} {H H1 H2 : Hp} (u : Upto b H H1) (v : Upto b H1 H2) : Upto b H H2 := fun c o hc e => v c o hc (u c o hc e)
theorem Upto.of {b : Addr} {H H1 : Hp} (u : Same H H1) : Upto b H H1 := fun c o _ e => u c o e
theorem Upto.at {b : Addr} {H : Hp} {o : HO} : Upto b H (upd H b o) := fun c u hc e => by rw [upd_ne hc]; exact e
theorem Same.new {H : Hp} {p : Addr} {o : HO} (h : H p = none) : Same H (upd H p o) := fun c u e => by rw [upd_ne (ne_of_none e h)]; exact e
theorem Upto.new {b : Addr} {H : Hp} {p : Addr} {o : HO} (h : H p = none) : Upto b H (upd H p o) := Upto.of (Same.new h)
theorem Upto.same {b : Addr} {H0 H H' : Hp} (n : H0 b = none) (a : Same H0 H) (u : Upto b H H') : Same H0 H' := fun c o e => u c o (ne_of_none e n) (a c o e)
theorem BagAt.same {b : Addr} {H H' : Hp} (h : BagAt H b) (u : Same H H') : BagAt H' b := by
  obtain ⟨x, y, hx, e⟩ := h
  exact ⟨x, y, hx, u _ _ e⟩
theorem sz {n : Nat} (h : n ≤ 100000) : n ≤ sizeLine := Nat.le_trans h (by decide)
theorem szl {a : List Nat} (h : a.length ≤ 100000) : (S a).length ≤ sizeLine := by rw [S_len]; exact sz h
theorem cutV_mem {xs : List V} {lo hi : Option Int} {v : V} (h : v ∈ cutV xs lo hi) : v ∈ xs := List.mem_of_mem_drop (List.mem_of_mem_take h)
theorem map_at {ns : List Int} {i : Int} (h0 : 0 ≤ i) (h : i < ((ns.map V.int).length : Int)) : ∃ c, atI (ns.map V.int) i = some (V.int c) := by
  have hl : i.toNat < ns.length := by rw [List.length_map] at h; omega
  obtain ⟨j, rfl⟩ : ∃ j : Nat, i = (j : Int) := ⟨i.toNat, by omega⟩
  exact ⟨ns[j], atI_nat (by simp [show j < ns.length by omega])⟩
/-! ### 2. the draws of the law -/
section
variable {P : Program} {w : World} {K : PySem.W.Frag} {mg : Str → Option Value} {base : Heap} {Z : Addrs}
def spBag (K : PySem.W.Frag) : Sp := fun vs H Q _ => ∃ (a : Addr) (ns : List Int) (i : Int), vs = [.ref a, .int i] ∧ SqL K H a (ns.map V.int) ∧ 0 ≤ i ∧
  ∀ p H', H p = none → Same H H' → BagAt H' p → Q (.ref p) H'
theorem c__law_bag (T : Txt K mg Z) : Cal P w K mg base 1 "_law_bag" (spBag K) [] := by
  refine cal_of T.d__law_bag sc__law_bag (fun vs H Q E h => ?_) (fun f cdv A outer s H vs Q E hr h => ?_)
  · obtain ⟨a, ns, i, rfl, _⟩ := h
    rfl
  · obtain ⟨a, ns, i, rfl, hS, i0, k⟩ := h
    refine ⟨_, (C8.pss_cut (ps_set (i := 2) sc__law_bag.nd rfl (by first | exact Or.inl rfl | exact Or.inr rfl) (pe_ifExp (pt_cmpR op_lt (pv 1) (pe_callB call_len_seq (by rfl) T.b_len (by decide +kernel) (pa_cons (pv 0) pa_nil)) (nomark _)) (pe_ix ix_list (pv 0) (pv 1) (fun _ _ => rfl)) pe_int))
      (pss_cons (ps_set (i := 3) sc__law_bag.nd rfl (by first | exact Or.inl rfl | exact Or.inr rfl) (pe_op op_add (pe_op op_mul pe_int (pv 1)) pe_int))
      (pss_cons (ps_for PassesOwn.never rfl (pi_enum rfl T.b_enumerate (pa_cons (pe_slice sl_list (pv 0) po_none (po_some pe_int)) pa_nil)) (pg_tup (by rfl) (pgs_cons (pg_name (i := 4) sc__law_bag.nd rfl (by first | exact Or.inl rfl | exact Or.inr rfl)) (pgs_cons (pg_name (i := 5) sc__law_bag.nd rfl (by first | exact Or.inl rfl | exact Or.inr rfl)) pgs_nil))) (pss_one (ps_set (i := 3) sc__law_bag.nd rfl (by first | exact Or.inl rfl | exact Or.inr rfl) (pe_op op_mod (pe_callTy call_int1 (by rfl) T.b_int (by decide +kernel) (pa_cons (pe_op op_add (pe_op op_add (pe_op op_mul (pv 3) pe_int) (pe_op op_mod (pe_callTy call_int1 (by rfl) T.b_int (by decide +kernel) (pa_cons (pv 5) pa_nil)) pe_int)) (pe_op op_mul pe_int (pv 4))) pa_nil)) pe_int))))
      (pss_one (ps_ret (pe_lst (pa_cons (pe_ifExp (pt_cmpR op_ge (pe_callB call_abs (by rfl) T.b_abs (by decide +kernel) (pa_cons (pv 2) pa_nil)) (pe_op op_pow pe_int pe_int) (nomark _)) (pe_callB call_abs (by rfl) T.b_abs (by decide +kernel) (pa_cons (pv 2) pa_nil)) pe_int) (pa_cons (pv 3) pa_nil)))))))), ?_⟩
    -- cell = script[at] if at < len(script) else 0
    refine ⟨fun σ' H' => H' = H ∧ ∃ c : Int, σ' = [some (.ref a), some (.int i), some (.int c), none, none, none], ?_, ?_⟩
    · refine ⟨_, rfl, _, rfl, a, _, rfl, .inl hS, _, _, rfl, rfl, _, rfl, ?_⟩
      refine ite2 (fun h1 => ?_) (fun h1 => ?_)
      · obtain ⟨c, hc⟩ := map_at i0 (of_decide_eq_true h1)
        exact ⟨_, rfl, _, rfl, a, _, i, _, rfl, rfl, hS, hc, rfl, c, rfl⟩
      · exact ⟨rfl, 0, rfl⟩
    rintro σ' H' ⟨rfl, c, rfl⟩
    -- seed = 6151 * at + 389
    refine ⟨_, rfl, _, _, rfl, rfl, .inl ⟨by decide, by decide⟩, _, _, rfl, rfl, ?_⟩
    -- for turn, each in enumerate(script[:63])
    refine ⟨_, rfl, 63, rfl, a, _, rfl, hS, fun p hp => ?_⟩
    refine ⟨p, _, rfl, SqL.of upd_same, for_it walk_enum (fun j σ H2 => ∃ (z : Int) (u v : Option V), σ = [some (.ref a), some (.int i), some (.int c), some (.int z), u, v] ∧ Same H' H2 ∧ H2 p = some (.lst (cutV (ns.map V.int) none (some 63))))
      ⟨_, none, none, rfl, Same.new hp, upd_same⟩ (fun _ _ _ _ ⟨_, _, _, _, _, e⟩ => SqL.of e) ?_ ?_⟩
    · rintro j x σ H2 H3 hj ⟨z, u, v, rfl, s2, e2⟩ ⟨T0, x1, x2, rfl, hT, rfl, q1, q2⟩
      cases q1
      obtain ⟨n, hn, rfl⟩ : ∃ n, n ∈ ns ∧ V.int n = x2 := List.mem_map.mp (cutV_mem (List.mem_of_getElem? q2))
      refine ⟨T0, _, rfl, SqT.of upd_same, rfl, _, _, rfl, _, _, rfl, rfl, ?_⟩
      refine ⟨_, rfl, _, _, rfl, rfl, .inr ⟨by decide, by decide⟩, _, rfl, .inl ⟨_, rfl, _, _, rfl, rfl, (by show (0 : Int) < 2147483579; decide), _, _, rfl, rfl, _, rfl, _, _, rfl, rfl, .inl ⟨by decide, by decide⟩, _, _, rfl, rfl, .inl ⟨_, rfl, _, _, rfl, rfl, (by show (0 : Int) < 2147483423; decide), ?_⟩⟩⟩
      exact ⟨_, _, _, rfl, s2.trans (Same.new hT), by rw [upd_ne (ne_of_none e2 hT)]; exact e2⟩
    -- return [abs(cell) if abs(cell) >= 10 ** 18 else 0, seed]
    rintro σ H2 ⟨z, u, v, rfl, s2, e2⟩
    refine ⟨_, rfl, _, rfl, 10, 18, rfl, rfl, ⟨by decide, by decide, by decide⟩, _, _, rfl, rfl, _, rfl, ?_⟩
    have ab : (0 : Int) ≤ if c < 0 then -c else c := by split <;> omega
    refine ite2 (fun _ => ?_) (fun _ => ?_)
    · refine ⟨_, rfl, _, rfl, _, rfl, (by show 2 ≤ sizeLine; decide), fun q hq => ?_⟩
      exact k q _ (s2.free hq) (s2.trans (Same.new hq)) ⟨_, _, ab, upd_same⟩
    · refine ⟨_, rfl, (by show 2 ≤ sizeLine; decide), fun q hq => ?_⟩
      exact k q _ (s2.free hq) (s2.trans (Same.new hq)) ⟨_, _, Int.le_refl 0, upd_same⟩

def spDraw : Sp := fun vs H Q _ => ∃ (b : Addr) (m : Int), vs = [.ref b, .int m] ∧ BagAt H b ∧ 0 < m ∧ m.natAbs < 2 ^ 9000 ∧
  ∀ (d : Int) H', 0 ≤ d → d < m → Upto b H H' → BagAt H' b → Q (.int d) H'
theorem c__law_draw (T : Txt K mg Z) : Cal P w K mg base 1 "_law_draw" spDraw [] := by
  refine cal_of T.d__law_draw sc__law_draw (fun vs H Q E h => ?_) (fun f cdv A outer s H vs Q E hr h => ?_)
  · obtain ⟨b, m, rfl, _⟩ := h
    rfl
  · obtain ⟨b, m, rfl, ⟨x, y, hx, hb⟩, m0, m1, k⟩ := h
    have wd : CDivW x m := wide_div m0 m1 (by decide) (by decide)
    have w13 : ∀ z : Int, CDivW z 13 := fun z => wide_div (b := 4) (by decide) (by decide) (by decide) (by decide)
    have w32 : ∀ z : Int, CDivW z 32 := fun z => wide_div (b := 6) (by decide) (by decide) (by decide) (by decide)
    refine ⟨_, (pss_cons (ps_if (pt_cmpR op_gt (pe_ix ix_list (pv 0) pe_int (fun _ _ => rfl)) pe_int (nomark _)) (pss_cons (ps_set (i := 2) sc__law_draw.nd rfl (by first | exact Or.inl rfl | exact Or.inr rfl) (pe_op op_mod (pe_callTy call_int1 (by rfl) T.b_int (by decide +kernel) (pa_cons (pe_ix ix_list (pv 0) pe_int (fun _ _ => rfl)) pa_nil)) (pv 1)))
      (pss_cons (ps_asg (pe_op op_fdivW (pe_ix ix_list (pv 0) pe_int (fun _ _ => rfl)) (pv 1)) (pg_sub (pv 0) pe_int set_list))
      (pss_one (ps_ret (pv 2))))) pss_nil)
      (pss_cons (ps_asg (pe_op op_mod (pe_callTy call_int1 (by rfl) T.b_int (by decide +kernel) (pa_cons (pe_op op_add (pe_op op_mul (pe_ix ix_list (pv 0) pe_int (fun _ _ => rfl)) pe_int) pe_int) pa_nil)) pe_int) (pg_sub (pv 0) pe_int set_list))
      (pss_one (ps_ret (pe_op op_mod (pe_op op_fdivW (pe_op op_mod (pe_callTy call_int1 (by rfl) T.b_int (by decide +kernel) (pa_cons (pe_op op_mul (pe_op op_fdivW (pe_ix ix_list (pv 0) pe_int (fun _ _ => rfl)) pe_int) pe_int) pa_nil)) pe_int) pe_int) (pv 1)))))), ?_⟩
    refine ⟨_, rfl, b, _, 0, _, rfl, rfl, SqL.of hb, rfl, _, _, rfl, rfl, _, rfl, ?_⟩
    refine ite2 (fun h1 => ?_) (fun h1 => ?_)
    · refine ⟨_, rfl, b, _, 0, _, rfl, rfl, SqL.of hb, rfl, .inl ⟨_, rfl, _, rfl, _, _, rfl, rfl, m0, ?_⟩⟩
      refine ⟨_, rfl, b, _, 0, _, rfl, rfl, SqL.of hb, rfl, _, rfl, _, _, rfl, rfl, wd, _, rfl, b, _, _, 0, rfl, rfl, hb, rfl, ?_⟩
      refine ⟨_, rfl, ?_⟩
      refine k _ _ (Int.emod_nonneg _ (by omega)) (Int.emod_lt_of_pos _ m0) Upto.at ⟨_, _, ?_, upd_same⟩
      exact Int.ediv_nonneg hx (by omega)
    · refine ⟨_, rfl, b, _, 1, _, rfl, rfl, SqL.of hb, rfl, _, _, rfl, rfl, .inr ⟨by decide, by decide⟩, _, _, rfl, rfl, .inl ⟨_, rfl, _, _, rfl, rfl, (by show (0 : Int) < 2147483647; decide), _, rfl, b, _, _, 1, rfl, rfl, hb, rfl, ?_⟩⟩
      refine ⟨_, rfl, b, _, 1, _, rfl, rfl, SqL.of upd_same, rfl, _, _, rfl, rfl, w13 _, _, _, rfl, rfl, .inr ⟨by decide, by decide⟩, .inl ⟨_, rfl, _, _, rfl, rfl, (by show (0 : Int) < 2147483629; decide), _, _, rfl, rfl, w32 _, _, rfl, _, _, rfl, rfl, m0, ?_⟩⟩
      exact k _ _ (Int.emod_nonneg _ (by omega)) (Int.emod_lt_of_pos _ m0) Upto.at ⟨_, _, hx, upd_same⟩

/-- some[draw]: a value of the list -/
def spOne (K : PySem.W.Frag) : Sp := fun vs H Q _ => ∃ (b l : Addr) (xs : List V), vs = [.ref b, .ref l] ∧ BagAt H b ∧ l ≠ b ∧ H l = some (.lst xs) ∧ 0 < xs.length ∧ xs.length ≤ 100000 ∧
  ∀ (v : V) H', v ∈ xs → Upto b H H' → BagAt H' b → Q v H'
theorem c__law_one (T : Txt K mg Z) : Cal P w K mg base 2 "_law_one" (spOne K) [] := by
  have c__law_draw : Cal P w K mg base 1 "_law_draw" spDraw [] := c__law_draw T
  refine cal_of T.d__law_one sc__law_one (fun vs H Q E h => ?_) (fun f cdv A outer s H vs Q E hr h => ?_)
  · obtain ⟨b, l, xs, rfl, _⟩ := h
    rfl
  · obtain ⟨b, l, xs, rfl, B, hlb, hl, l0, l1, k⟩ := h
    refine ⟨_, (pss_one (ps_ret (pe_ix ix_list (pv 1) (pe_c c__law_draw hr (by omega) rfl (pa_cons (pv 0) (pa_cons (pe_callB call_len_seq (by rfl) T.b_len (by decide +kernel) (pa_cons (pv 1) pa_nil)) pa_nil))) (fun _ _ => rfl)))), ?_⟩
    refine ⟨_, rfl, _, rfl, _, rfl, l, xs, rfl, .inl (SqL.of hl), b, _, rfl, B, by omega, Nat.lt_of_le_of_lt (by rw [Int.natAbs_natCast]; exact l1) (by decide +kernel : 100000 < 2 ^ 9000), fun d H' d0 d1 u B' => ?_⟩
    have hd : d.toNat < xs.length := by omega
    have e : atI xs d = some xs[d.toNat] := by
      have e : d = ((d.toNat : Nat) : Int) := by omega
      conv => lhs; rw [e]
      exact atI_nat (by simp [hd])
    exact ⟨l, xs, d, _, rfl, rfl, SqL.of (u l _ hlb hl), e, k _ _ (List.getElem_mem hd) u B'⟩
end

/-! ### 3. words and keys: the program -/
def smallC (c : Nat) : Bool := decide (c ∈ ("abcdefghijklmnopqrstuvwxyz" : Str).cps.toList)
def smallL (a : List Nat) : Bool := a.all smallC
def resV : List V := [.str "class", .str "shared", .str "promise", .str "value", .str "init", .str "method", .str "getter", .str "setter", .str "chained", .str "final", .str "set", .str "keep", .str "read", .str "look", .str "call", .str "super", .str "of", .str "make", .str "fail", .str "try", .str "catch", .str "if", .str "else", .str "either", .str "or", .str "loop"]
def wordL (a : List Nat) : Bool := decide (1 ≤ (a.length : Int)) && (decide ((a.length : Int) ≤ 8) && (smallL a && !inV (.str (S a)) resV))
theorem smallL_take {a : List Nat} {i : Nat} {c : Nat} (h : a[i]? = some c) (s : smallL (a.take i) = true) (hc : smallC c = true) : smallL (a.take (i + 1)) = true := by
  unfold smallL at s ⊢
  rw [List.take_add_one, List.all_append, s, h]
  simp [hc]
theorem smallL_no {a : List Nat} {i : Nat} {c : Nat} (h : a[i]? = some c) (hc : smallC c = false) : smallL a = false := by
  cases e : smallL a with
  | false => rfl
  | true =>
    have := List.all_eq_true.mp e c (List.mem_of_getElem? h)
    rw [hc] at this
    cases this
/-- what isinstance(v, str) asks -/
def StrOr (K : PySem.W.Frag) (H : Hp) (v : V) (z : Option (List Nat)) : Prop := ∃ t, TyX K H v t ∧ PySem.W.kitOne K t (.type "str") = some z.isSome ∧ ∀ a, z = some a → v = .str (S a) ∧ a.length ≤ 100000
section
variable {P : Program} {w : World} {K : PySem.W.Frag} {mg : Str → Option Value} {base : Heap} {Z : Addrs}
def spSmall : Sp := fun vs H Q _ => ∃ a, vs = [.str (S a)] ∧ ∀ H', Same H H' → Q (.bl (smallL a)) H'
theorem c_all_small (T : Txt K mg Z) : Cal P w K mg base 1 "all_small" spSmall [] := by
  refine cal_of T.d_all_small sc_all_small (fun vs H Q E h => ?_) (fun f cdv A outer s H vs Q E hr h => ?_)
  · obtain ⟨a, rfl, _⟩ := h
    rfl
  · obtain ⟨a, rfl, k⟩ := h
    refine ⟨_, (pss_cons (ps_for PassesOwn.never rfl (pi_str (pv 0)) (pg_name (i := 1) sc_all_small.nd rfl (by first | exact Or.inl rfl | exact Or.inr rfl)) (pss_one (ps_if (pt_cmpR op_notIn_sign (pv 1) (pe_gc rfl T.g_SMALL) (by rfl)) (pss_one (ps_ret pe_bl)) pss_nil)))
      (pss_one (ps_ret pe_bl))), ?_⟩
    refine ⟨_, rfl, S a, rfl, for_it walk_str (fun i σ H1 => (∃ v, σ = [some (.str (S a)), v]) ∧ H1 = H ∧ smallL (a.take i) = true) ⟨⟨none, rfl⟩, rfl, rfl⟩ (fun _ _ _ _ _ => trivial) ?_ ?_⟩
    · rintro i x σ H1 H2 hi ⟨⟨v, rfl⟩, rfl, hs⟩ ⟨rfl, c, hc, rfl⟩
      have hc' : a[i]? = some c := by simpa using hc
      refine ⟨_, rfl, c, _, rfl, rfl, _, rfl, ?_⟩
      refine ite2 (fun h1 => ?_) (fun h1 => ?_)
      · have hf : smallC c = false := by simpa [smallC] using h1
        have := k H2 (Same.refl _)
        rw [smallL_no hc' hf] at this
        exact this
      · have hf : smallC c = true := by simpa [smallC] using h1
        exact ⟨⟨_, rfl⟩, rfl, smallL_take hc' hs hf⟩
    · rintro σ H1 ⟨⟨v, rfl⟩, rfl, hs⟩
      have := k H1 (Same.refl _)
      rw [show smallL a = true by rw [← hs]; simp] at this
      exact this

def spWord : Sp := fun vs H Q _ => ∃ a, vs = [.str (S a)] ∧ a.length ≤ 100000 ∧ ∀ H', Same H H' → Q (.bl (wordL a)) H'
theorem c_fits_word (T : Txt K mg Z) : Cal P w K mg base 2 "fits_word" spWord [] := by
  have c_all_small : Cal P w K mg base 1 "all_small" spSmall [] := c_all_small T
  refine cal_of T.d_fits_word sc_fits_word (fun vs H Q E h => ?_) (fun f cdv A outer s H vs Q E hr h => ?_)
  · obtain ⟨a, rfl, _⟩ := h
    rfl
  · obtain ⟨a, rfl, hl, k⟩ := h
    have k' : ∀ b H', Same H H' → wordL a = b → Q (.bl b) H' := fun b H' e h => h ▸ k H' e
    refine ⟨_, (pss_one (ps_ret (pe_and (pe_chain op_le op_le pe_int (pe_callB call_len_str (by rfl) T.b_len (by decide +kernel) (pa_cons (pv 0) pa_nil)) (pe_gc rfl T.g_LONGEST)) (pe_and (pe_c c_all_small hr (by omega) rfl (pa_cons (pv 0) pa_nil)) (pe_one (pe_cmpR op_notIn_seq (pv 0) (pe_gc rfl T.g_RESERVED) (by with_unfolding_all rfl))))))), ?_⟩
    refine ⟨_, rfl, S a, rfl, szl hl, _, _, rfl, rfl, _, rfl, ?_⟩
    rw [S_len]
    refine ite2 (fun h1 => ?_) (fun h1 => ?_)
    · refine ⟨_, _, rfl, rfl, _, rfl, ?_⟩
      refine ite2 (fun h2 => ?_) (fun h2 => ?_)
      · refine ⟨_, rfl, a, rfl, fun H1 e1 => ⟨_, rfl, ?_⟩⟩
        refine ite2 (fun h3 => ?_) (fun h3 => ?_)
        · refine ⟨_, rfl, Z.C_RESERVED, resV, rfl, .inr (T.t_RESERVED H1), rfl, rfl, ?_⟩
          exact k' _ _ e1 (by simp [wordL, of_decide_eq_true h1, of_decide_eq_true h2, h3])
        · exact k' _ _ e1 (by simp [wordL, of_decide_eq_true h1, of_decide_eq_true h2, h3])
      · exact k' _ _ (Same.refl _) (by simp only [decide_eq_true_eq] at h2; simp [wordL, h2])
    · refine ⟨_, rfl, iteF ?_⟩
      exact k' _ _ (Same.refl _) (by simp only [decide_eq_true_eq] at h1; simp only [wordL, h1]; simp)

end

/-! ### 3b. tokens -/
def capC (c : Nat) : Bool := decide (c ∈ ("ABCDEFGHIJKLMNOPQRSTUVWXYZ" : Str).cps.toList)
def isL (c : Nat) : Bool := smallC c || capC c
def blC (c : Nat) : Bool := decide (c ∈ (" \n" : Str).cps.toList)
def classL (a : List Nat) : Bool := decide (1 ≤ (a.length : Int)) && (decide ((a.length : Int) ≤ 8) && ((a.head?.elim false capC) && smallL (a.drop 1)))
abbrev Tok := Nat × List Nat
/-- the end of the token, or of the blank, that begins at i -/
def tokEnd (a : List Nat) (i : Nat) : Nat := i + 1 + (if (a[i]?.elim false isL) = true then ((a.drop (i + 1)).takeWhile isL).length else 0)
def tokF (a : List Nat) : Nat → Nat → List Tok
  | 0, _ => []
  | f + 1, i => if i < a.length then (if (a[i]?.elim false blC) = true then tokF a f (tokEnd a i) else (i, (a.drop i).take (tokEnd a i - i)) :: tokF a f (tokEnd a i)) else []
def toks (a : List Nat) : List Tok := tokF a a.length 0
theorem tokEnd_gt (a : List Nat) (i : Nat) : i < tokEnd a i := by unfold tokEnd; omega
theorem tokEnd_le {a : List Nat} {i : Nat} (h : i < a.length) : tokEnd a i ≤ a.length := by
  unfold tokEnd
  split
  · have h1 : ((a.drop (i + 1)).takeWhile isL).length ≤ (a.drop (i + 1)).length := (List.takeWhile_sublist _).length_le
    rw [List.length_drop] at h1
    omega
  · omega
theorem slice_mid {a : List Nat} {i j : Nat} (h : i ≤ j) (hj : j ≤ a.length) : Txt.slice (S a) (some (i : Int)) (some (j : Int)) = S ((a.drop i).take (j - i)) := by
  have e := beq_iff_eq.mp (slice_closesL (x := S a) (i := (i : Int)) (j := (j : Int)) (by omega) (by omega) (by rw [S_len a]; omega))
  rw [e]
  have e1 : ((j : Int) - (i : Int)).toNat = j - i := by omega
  rw [e1]
  show (⟨((a.drop i).take (j - i)).toArray⟩ : Str) = _
  rfl
theorem takeWhile_ext {p : Nat → Bool} {l : List Nat} {n : Nat} (h : ∀ k, k < n → ∃ c, l[k]? = some c ∧ p c = true) (hn : ∀ c, l[n]? = some c → p c = false) : (l.takeWhile p).length = n := by
  induction l generalizing n with
  | nil =>
    cases n with
    | zero => rfl
    | succ n =>
      obtain ⟨c, hc, _⟩ := h 0 (Nat.succ_pos _)
      simp at hc
  | cons x l ih =>
    cases n with
    | zero =>
      have := hn x rfl
      rw [List.takeWhile_cons, this]
      rfl
    | succ n =>
      obtain ⟨c, hc, hp⟩ := h 0 (Nat.succ_pos _)
      simp at hc
      subst hc
      rw [List.takeWhile_cons, hp]
      have := ih (n := n) (fun k hk => by simpa using h (k + 1) (by omega)) (fun c hc => hn c (by simpa using hc))
      simp [this]
section
variable {P : Program} {w : World} {K : PySem.W.Frag} {mg : Str → Option Value} {base : Heap} {Z : Addrs}
def spLetter : Sp := fun vs H Q _ => ∃ c, vs = [.str (S [c])] ∧ Q (.bl (isL c)) H
theorem c_is_letter (T : Txt K mg Z) : Cal P w K mg base 1 "is_letter" spLetter [] := by
  refine cal_of T.d_is_letter sc_is_letter (fun vs H Q E h => ?_) (fun f cdv A outer s H vs Q E hr h => ?_)
  · obtain ⟨a, rfl, _⟩ := h
    rfl
  · obtain ⟨c, rfl, k⟩ := h
    refine ⟨_, (pss_one (ps_ret (pe_or (pe_cmpR op_in_sign (pv 0) (pe_gc rfl T.g_SMALL) (by rfl)) (pe_one (pe_cmpR op_in_sign (pv 0) (pe_gc rfl T.g_CAPITAL) (by rfl)))))), ?_⟩
    refine ⟨_, rfl, c, _, rfl, rfl, _, rfl, ?_⟩
    refine ite2 (fun h1 => ?_) (fun h1 => ?_)
    · have h1' : smallC c = true := h1
      simp only [isL, h1', Bool.true_or] at k
      exact k
    · have h1' : smallC c = false := by simpa [smallC] using h1
      refine ⟨_, rfl, c, _, rfl, rfl, ?_⟩
      simp only [isL, h1', Bool.false_or] at k
      exact k
def spTokEnd : Sp := fun vs H Q _ => ∃ (a : List Nat) (i : Nat), vs = [.str (S a), .int (i : Int)] ∧ a.length ≤ 100000 ∧ i < a.length ∧ Q (.int (tokEnd a i : Int)) H
theorem c_token_end (T : Txt K mg Z) : Cal P w K mg base 2 "token_end" spTokEnd [] := by
  have c_is_letter : Cal P w K mg base 1 "is_letter" spLetter [] := c_is_letter T
  refine cal_of T.d_token_end sc_token_end (fun vs H Q E h => ?_) (fun f cdv A outer s H vs Q E hr h => ?_)
  · obtain ⟨a, i, rfl, _⟩ := h
    rfl
  · obtain ⟨a, i, rfl, hl, hi, k⟩ := h
    refine ⟨_, (pss_cons (ps_set (i := 2) sc_token_end.nd rfl (by first | exact Or.inl rfl | exact Or.inr rfl) (pe_op op_add (pv 1) pe_int))
      (C8.pss_cut (ps_if (pt_val (pe_c c_is_letter hr (by omega) rfl (pa_cons (pe_ix ix_str (pv 0) (pv 1) (fun _ _ => rfl)) pa_nil))) (pss_one (ps_while PassesOwn.never (PW.pt (pw_and (pt_cmpR op_lt (pv 2) (pe_callB call_len_str (by rfl) T.b_len (by decide +kernel) (pa_cons (pv 0) pa_nil)) (nomark _)) (pw_and1 (pt_val (pe_c c_is_letter hr (by omega) rfl (pa_cons (pe_ix ix_str (pv 0) (pv 2) (fun _ _ => rfl)) pa_nil)))))) (pss_one (ps_set (i := 2) sc_token_end.nd rfl (by first | exact Or.inl rfl | exact Or.inr rfl) (pe_op op_add (pv 2) pe_int))))) pss_nil)
      (pss_one (ps_ret (pv 2))))), ?_⟩
    have hc : a[i]? = some a[i] := by simp [hi]
    refine ⟨_, rfl, _, _, rfl, rfl, ?_⟩
    refine ⟨fun σ H1 => H1 = H ∧ σ = [some (.str (S a)), some (.int (i : Int)), some (.int (tokEnd a i : Int))], ?_, ?_⟩
    · refine ⟨_, rfl, _, rfl, S a, _, _, rfl, rfl, szl hl, atI_nat hc, a[i], rfl, _, rfl, ?_⟩
      refine ite2 (fun h1 => ?_) (fun h1 => ?_)
      · -- while end < len(text) and is_letter(text[end])
        refine ⟨fun m σ H1 => H1 = H ∧ ∃ n : Nat, σ = [some (.str (S a)), some (.int (i : Int)), some (.int ((i + 1 + n : Nat) : Int))] ∧ i + 1 + n ≤ a.length ∧ m = a.length - n ∧ ∀ k, k < n → ∃ c, (a.drop (i + 1))[k]? = some c ∧ isL c = true,
          ⟨_, rfl, 0, rfl, by omega, rfl, fun k hk => absurd hk (Nat.not_lt_zero _)⟩, ?_⟩
        · rintro m σ H1 ⟨rfl, n, rfl, hn, rfl, hk⟩
          refine ⟨_, rfl, _, rfl, S a, rfl, szl hl, _, _, rfl, rfl, _, rfl, ?_⟩
          rw [S_len]
          have fin : (∀ c, (a.drop (i + 1))[n]? = some c → isL c = false) → tokEnd a i = i + 1 + n := fun hz => by
            unfold tokEnd
            rw [hc]
            have h1' : isL a[i] = true := h1
            simp only [Option.elim_some, h1', if_true]
            rw [takeWhile_ext hk hz]
          refine ite2 (fun h2 => ?_) (fun h2 => ?_)
          · have h2' : i + 1 + n < a.length := by have := of_decide_eq_true h2; omega
            have hc2 : a[i + 1 + n]? = some a[i + 1 + n] := by simp [h2']
            refine ⟨_, rfl, _, rfl, S a, _, _, rfl, rfl, szl hl, atI_nat hc2, a[i + 1 + n], rfl, _, rfl, ?_⟩
            refine ite2 (fun h3 => ?_) (fun h3 => ?_)
            · refine ⟨fun σ' H' => ∃ m', m' < a.length - n ∧ (H' = H1 ∧ ∃ n : Nat, σ' = [some (.str (S a)), some (.int (i : Int)), some (.int ((i + 1 + n : Nat) : Int))] ∧ i + 1 + n ≤ a.length ∧ m' = a.length - n ∧ ∀ k, k < n → ∃ c, (a.drop (i + 1))[k]? = some c ∧ isL c = true), fun _ _ h => h, ?_⟩
              refine ⟨_, rfl, _, _, rfl, rfl, ?_⟩
              refine ⟨_, by omega, rfl, n + 1, rfl, by omega, rfl, fun k hk' => ?_⟩
              · by_cases e : k = n
                · subst e
                  exact ⟨a[i + 1 + k], by simp [h2'], h3⟩
                · exact hk k (by omega)
            · have h3' : isL a[i + 1 + n] = false := by simpa using h3
              have e := fin fun c hz => by
                have : a[i + 1 + n]? = some c := by simpa using hz
                rw [hc2] at this
                cases this
                exact h3'
              exact ⟨rfl, by rw [e]⟩
          · have h2' : ¬ i + 1 + n < a.length := by simp only [decide_eq_true_eq] at h2; omega
            have e := fin fun c hz => by
              have : a[i + 1 + n]? = some c := by simpa using hz
              rw [List.getElem?_eq_none (by omega)] at this
              cases this
            exact ⟨rfl, by rw [e]⟩
      · refine ⟨rfl, ?_⟩
        have h1' : isL a[i] = false := by simpa using h1
        have e : tokEnd a i = i + 1 := by
          unfold tokEnd
          rw [hc]
          simp [h1']
        rw [e]
        rfl
    · rintro σ H1 ⟨rfl, rfl⟩
      exact ⟨_, rfl, k⟩
end

structure ToksAt (H : Hp) (p : Addr) (tk : List Tok) : Prop where
  ex : ∃ rows : List Addr, H p = some (.lst (rows.map V.ref)) ∧ rows.length = tk.length ∧ ∀ (j : Nat) (q : Addr) (t : Tok), rows[j]? = some q → tk[j]? = some t → H q = some (.tup [.int (t.1 : Int), .str (S t.2)])
theorem ToksAt.same {H H' : Hp} {p : Addr} {tk : List Tok} (h : ToksAt H p tk) (e : Same H H') : ToksAt H' p tk := by
  obtain ⟨rows, h1, h2, h3⟩ := h.ex
  exact ⟨rows, e _ _ h1, h2, fun j q t a b => e _ _ (h3 j q t a b)⟩
theorem ToksAt.push {H : Hp} {p q : Addr} {tk : List Tok} {rows : List Addr} {t : Tok} (h1 : H p = some (.lst (rows.map V.ref))) (h2 : rows.length = tk.length)
    (h3 : ∀ (j : Nat) (q : Addr) (t : Tok), rows[j]? = some q → tk[j]? = some t → H q = some (.tup [.int (t.1 : Int), .str (S t.2)])) (hq : H q = none) {H' : Hp}
    (e : H' = upd (upd H q (.tup [.int (t.1 : Int), .str (S t.2)])) p (.lst (rows.map V.ref ++ [.ref q]))) : ToksAt H' p (tk ++ [t]) := by
  subst e
  refine ⟨rows ++ [q], by rw [upd_same]; simp, by simp [h2], fun j x u a b => ?_⟩
  have key : ∀ {y : Addr} {o : HO}, H y = some o → (∀ l, o ≠ .lst l) → y ≠ q ∧ y ≠ p := fun {y o} hy hl => ⟨ne_of_none hy hq, fun z => by subst z; rw [hy] at h1; exact hl _ (Option.some.inj h1)⟩
  by_cases hj : j < rows.length
  · rw [List.getElem?_append_left hj] at a
    rw [List.getElem?_append_left (by omega)] at b
    have := h3 j x u a b
    obtain ⟨n1, n2⟩ := key this (fun l z => by cases z)
    rw [upd_ne n2, upd_ne n1]
    exact this
  · have hlen : j < (rows ++ [q]).length := (List.getElem?_eq_some_iff.mp a).1
    have ej : j = rows.length := by simp at hlen; omega
    subst ej
    have a' : q = x := by simpa using a
    rw [h2] at b
    have b' : t = u := by simpa using b
    subst a' b'
    have hqp : q ≠ p := fun z => by subst z; rw [h1] at hq; cases hq
    rw [upd_ne hqp]
    exact upd_same
theorem tokF_len (a : List Nat) : ∀ f i, (tokF a f i).length ≤ f
  | 0, _ => Nat.le_refl _
  | f + 1, i => by
    unfold tokF
    have ih := tokF_len a f (tokEnd a i)
    split
    · split
      · omega
      · simp; omega
    · simp
theorem toks_len (a : List Nat) : (toks a).length ≤ a.length := tokF_len a _ _
theorem tokF_le (a : List Nat) : ∀ f i, ∀ t ∈ tokF a f i, t.2.length ≤ a.length
  | 0, _, _, h => by cases h
  | f + 1, i, t, h => by
    unfold tokF at h
    split at h
    · split at h
      · exact tokF_le a f _ t h
      · rcases List.mem_cons.mp h with rfl | h
        · simp; omega
        · exact tokF_le a f _ t h
    · cases h
section
variable {P : Program} {w : World} {K : PySem.W.Frag} {mg : Str → Option Value} {base : Heap} {Z : Addrs}
def spToks : Sp := fun vs H Q _ => ∃ (a : List Nat), vs = [.str (S a)] ∧ a.length ≤ 100000 ∧ ∀ p H', H p = none → Same H H' → ToksAt H' p (toks a) → Q (.ref p) H'
theorem c_tokens_of (T : Txt K mg Z) : Cal P w K mg base 3 "tokens_of" spToks [] := by
  have c_token_end : Cal P w K mg base 2 "token_end" spTokEnd [] := c_token_end T
  refine cal_of T.d_tokens_of sc_tokens_of (fun vs H Q E h => ?_) (fun f cdv A outer s H vs Q E hr h => ?_)
  · obtain ⟨a, rfl, _⟩ := h
    rfl
  · obtain ⟨a, rfl, hl, k⟩ := h
    refine ⟨_, (pss_cons (ps_set (i := 1) sc_tokens_of.nd rfl (by first | exact Or.inl rfl | exact Or.inr rfl) (pe_lst pa_nil))
      (pss_cons (ps_set (i := 2) sc_tokens_of.nd rfl (by first | exact Or.inl rfl | exact Or.inr rfl) pe_int)
      (pss_cons (ps_while PassesOwn.never (pt_cmpR op_lt (pv 2) (pe_callB call_len_str (by rfl) T.b_len (by decide +kernel) (pa_cons (pv 0) pa_nil)) (nomark _)) (pss_cons (ps_set (i := 3) sc_tokens_of.nd rfl (by first | exact Or.inl rfl | exact Or.inr rfl) (pe_c c_token_end hr (by omega) rfl (pa_cons (pv 0) (pa_cons (pv 2) pa_nil))))
      (C8.pss_cut (ps_if (pt_cmpR op_notIn_sign (pe_ix ix_str (pv 0) (pv 2) (fun _ _ => rfl)) (pe_gc rfl T.g_BLANKS) (by rfl)) (pss_one (ps_expr (pe_bm PySem.F.plainAttrs_list PySem.F.slot_list_append PySem.F.type_list_append mt_append (pv 1) (pa_cons (pe_tup (pa_cons (pv 2) (pa_cons (pe_slice C8.sl_txt (pv 0) (po_some (pv 2)) (po_some (pv 3))) pa_nil))) pa_nil)))) pss_nil)
      (pss_one (ps_set (i := 2) sc_tokens_of.nd rfl (by first | exact Or.inl rfl | exact Or.inr rfl) (pv 3))))))
      (pss_one (ps_ret (pv 1)))))), ?_⟩
    refine ⟨by decide, fun p hp => ?_⟩
    let W : Nat → L2.St → Hp → Prop := fun m σ H1 => ∃ (i : Nat) (v : Option V) (acc : List Tok), σ = [some (.str (S a)), some (.ref p), some (.int (i : Int)), v] ∧ Same H H1 ∧ ToksAt H1 p acc ∧ toks a = acc ++ tokF a m i ∧ a.length ≤ i + m ∧ acc.length + m ≤ a.length
    refine ⟨W, ⟨a.length, 0, none, [], rfl, Same.new hp, ⟨[], upd_same, rfl, fun j q t h => by simp at h⟩, rfl, by omega, by simp⟩, ?_⟩
    rintro m σ H1 ⟨i, v, acc, rfl, S1, TA, et, hm, hac⟩
    refine ⟨_, rfl, _, rfl, S a, rfl, szl hl, _, _, rfl, rfl, _, rfl, ?_⟩
    rw [S_len]
    refine ite2 (fun h1 => ?_) (fun h1 => ?_)
    · have hi : i < a.length := by simpa using h1
      obtain ⟨m, rfl⟩ : ∃ m', m = m' + 1 := ⟨m - 1, by omega⟩
      have hc : a[i]? = some a[i] := by simp [hi]
      refine ⟨fun σ' H' => ∃ m', m' < m + 1 ∧ W m' σ' H', fun _ _ h => h, ?_⟩
      -- end = token_end(text, at)
      refine ⟨_, rfl, _, rfl, a, i, rfl, hl, hi, ?_⟩
      have le := tokEnd_le hi
      have gt := tokEnd_gt a i
      -- if text[at] not in BLANKS
      refine ⟨fun σ' H' => ∃ acc' : List Tok, σ' = [some (.str (S a)), some (.ref p), some (.int (i : Int)), some (.int (tokEnd a i : Int))] ∧ Same H H' ∧ ToksAt H' p acc' ∧ toks a = acc' ++ tokF a m (tokEnd a i) ∧ acc'.length + m ≤ a.length, ?_, ?_⟩
      · refine ⟨_, rfl, _, rfl, S a, _, _, rfl, rfl, szl hl, atI_nat hc, a[i], _, rfl, rfl, _, rfl, ?_⟩
        have eF : tokF a (m + 1) i = if (a[i]?.elim false blC) = true then tokF a m (tokEnd a i) else (i, (a.drop i).take (tokEnd a i - i)) :: tokF a m (tokEnd a i) := by
          conv => lhs; unfold tokF
          rw [if_pos hi]
        rw [hc] at eF
        refine ite2 (fun h2 => ?_) (fun h2 => ?_)
        · have hb : blC a[i] = false := by simpa [blC] using h2
          simp only [Option.elim_some, hb, Bool.false_eq_true, if_false] at eF
          obtain ⟨rows, r1, r2, r3⟩ := TA.ex
          refine ⟨_, rfl, .inl ⟨rfl, _, SqL.of r1⟩, _, rfl, _, rfl, _, rfl, _, rfl, _, rfl, _, rfl, S a, rfl, szl hl, ?_⟩
          rw [slice_mid (Nat.le_of_lt gt) le]
          refine ⟨by show 2 ≤ sizeLine; decide, fun q hq => ⟨p, _, _, rfl, rfl, (Same.new hq) _ _ r1, ?_, ?_⟩⟩
          · rw [List.length_map, r2]
            exact Nat.lt_of_le_of_lt (by omega : acc.length ≤ 100000) (by decide)
          · refine ⟨acc ++ [(i, (a.drop i).take (tokEnd a i - i))], rfl, ?_, ToksAt.push r1 r2 r3 hq rfl, ?_, by simp; omega⟩
            · exact (Upto.of (S1.trans (Same.new hq))).trans Upto.at |> fun u => fun c o e => u c o (ne_of_none e hp) e
            · rw [et, eF]
              simp
        · have hb : blC a[i] = true := by simpa [blC] using h2
          simp only [Option.elim_some, hb, if_true] at eF
          exact ⟨acc, rfl, S1, TA, by rw [et, eF], by omega⟩
      · rintro σ' H' ⟨acc', rfl, S2, TA2, et2, hac2⟩
        -- at = end
        exact ⟨_, rfl, m, by omega, tokEnd a i, _, acc', rfl, S2, TA2, et2, by omega, hac2⟩
    · -- return rows
      have hi : ¬ i < a.length := by simpa using h1
      have e0 : tokF a m i = [] := by
        cases m with
        | zero => rfl
        | succ m =>
          unfold tokF
          rw [if_neg hi]
      rw [e0, List.append_nil] at et
      rw [← et] at TA
      exact ⟨_, rfl, k p H1 hp S1 TA⟩
def spClass : Sp := fun vs H Q _ => ∃ a, vs = [.str (S a)] ∧ a.length ≤ 100000 ∧ ∀ H', Same H H' → Q (.bl (classL a)) H'
theorem c_fits_class (T : Txt K mg Z) : Cal P w K mg base 2 "fits_class" spClass [] := by
  have c_all_small : Cal P w K mg base 1 "all_small" spSmall [] := c_all_small T
  refine cal_of T.d_fits_class sc_fits_class (fun vs H Q E h => ?_) (fun f cdv A outer s H vs Q E hr h => ?_)
  · obtain ⟨a, rfl, _⟩ := h
    rfl
  · obtain ⟨a, rfl, hl, k⟩ := h
    have k' : ∀ b H', Same H H' → classL a = b → Q (.bl b) H' := fun b H' e h => h ▸ k H' e
    refine ⟨_, (pss_one (ps_ret (pe_and (pe_chain op_le op_le pe_int (pe_callB call_len_str (by rfl) T.b_len (by decide +kernel) (pa_cons (pv 0) pa_nil)) (pe_gc rfl T.g_LONGEST)) (pe_and (pe_cmpR op_in_sign (pe_ix ix_str (pv 0) pe_int (fun _ _ => rfl)) (pe_gc rfl T.g_CAPITAL) (by rfl)) (pe_one (pe_c c_all_small hr (by omega) rfl (pa_cons (pe_slice C8.sl_txt (pv 0) (po_some pe_int) po_none) pa_nil))))))), ?_⟩
    refine ⟨_, rfl, S a, rfl, szl hl, _, _, rfl, rfl, _, rfl, ?_⟩
    rw [S_len]
    refine ite2 (fun h1 => ?_) (fun h1 => ?_)
    · refine ⟨_, _, rfl, rfl, _, rfl, ?_⟩
      have h1' : 1 ≤ (a.length : Int) := of_decide_eq_true h1
      refine ite2 (fun h2 => ?_) (fun h2 => ?_)
      · have h2' : (a.length : Int) ≤ 8 := of_decide_eq_true h2
        obtain ⟨c, l, rfl⟩ : ∃ c l, a = c :: l := by
          cases a with
          | nil => simp at h1'
          | cons c l => exact ⟨c, l, rfl⟩
        refine ⟨_, rfl, S (c :: l), 0, c, rfl, rfl, szl hl, atI_nat (j := 0) rfl, c, _, rfl, rfl, _, rfl, ?_⟩
        have e0 : classL (c :: l) = (capC c && smallL l) := by
          simp only [classL, h1', h2', decide_true, Bool.true_and]
          rfl
        refine ite2 (fun h3 => ?_) (fun h3 => ?_)
        · have h3' : capC c = true := h3
          refine ⟨_, rfl, 1, rfl, S (c :: l), rfl, szl hl, ?_⟩
          rw [SX.slice_from (by decide)]
          refine ⟨l, rfl, fun H1 e1 => k' _ _ e1 ?_⟩
          rw [e0, h3', Bool.true_and]
        · have h3' : capC c = false := by simpa [capC] using h3
          exact k' _ _ (Same.refl _) (by rw [e0, h3', Bool.false_and])
      · exact k' _ _ (Same.refl _) (by simp only [decide_eq_true_eq] at h2; simp [classL, h2])
    · refine ⟨_, rfl, iteF ?_⟩
      exact k' _ _ (Same.refl _) (by simp only [decide_eq_true_eq] at h1; simp only [classL, h1]; simp)
end

/-! ### 3c. the reader -/
theorem f_TL : ¬ ("tokens" : Str) = "length" := by decide +kernel
theorem f_TP : ¬ ("tokens" : Str) = "place" := by decide +kernel
theorem f_LP : ¬ ("length" : Str) = "place" := by decide +kernel
theorem f_LT : ¬ ("length" : Str) = "tokens" := by decide +kernel
theorem f_PT : ¬ ("place" : Str) = "tokens" := by decide +kernel
theorem f_PL : ¬ ("place" : Str) = "length" := by decide +kernel
def rdF (tl : Addr) (n i : Nat) : List (Str × V) := [("tokens", .ref tl), ("length", .int (n : Int)), ("place", .int (i : Int))]
theorem rdF_T {tl : Addr} {n i : Nat} : (rdF tl n i).lookup ("tokens" : Str) = some (.ref tl) := look_eq
theorem rdF_L {tl : Addr} {n i : Nat} : (rdF tl n i).lookup ("length" : Str) = some (.int (n : Int)) := (look_ne f_LT).trans look_eq
theorem rdF_P {tl : Addr} {n i : Nat} : (rdF tl n i).lookup ("place" : Str) = some (.int (i : Int)) := (look_ne f_PT).trans ((look_ne f_PL).trans look_eq)
theorem rdF_no {tl : Addr} {n i : Nat} {m : Str} (h1 : ¬ m = "tokens") (h2 : ¬ m = "length") (h3 : ¬ m = "place") : (rdF tl n i).lookup m = none := (look_ne h1).trans ((look_ne h2).trans ((look_ne h3).trans rfl))
theorem rdF_put {tl : Addr} {n i j : Nat} : putF "place" (.int (j : Int)) (rdF tl n i) = rdF tl n j := by
  unfold rdF
  rw [putF_ne f_TP, putF_ne f_LP, putF_eq]
theorem rdF_made {tl : Addr} {n i : Nat} : putF "place" (.int (i : Int)) (putF "length" (.int (n : Int)) (putF "tokens" (.ref tl) [])) = rdF tl n i := by
  show putF "place" _ (putF "length" _ [("tokens", V.ref tl)]) = _
  rw [putF_ne f_TL]
  show putF "place" _ [("tokens", V.ref tl), ("length", V.int (n : Int))] = _
  rw [putF_ne f_TP, putF_ne f_LP]
  rfl
theorem m_no {tl : Addr} {n i : Nat} : (rdF tl n i).lookup ("token" : Str) = none ∧ (rdF tl n i).lookup ("position" : Str) = none ∧ (rdF tl n i).lookup ("advance" : Str) = none ∧ (rdF tl n i).lookup ("take" : Str) = none ∧ (rdF tl n i).lookup ("take_word" : Str) = none ∧ (rdF tl n i).lookup ("take_class" : Str) = none ∧ (rdF tl n i).lookup ("finish" : Str) = none :=
  ⟨rdF_no (by decide +kernel) (by decide +kernel) (by decide +kernel), rdF_no (by decide +kernel) (by decide +kernel) (by decide +kernel), rdF_no (by decide +kernel) (by decide +kernel) (by decide +kernel), rdF_no (by decide +kernel) (by decide +kernel) (by decide +kernel),
    rdF_no (by decide +kernel) (by decide +kernel) (by decide +kernel), rdF_no (by decide +kernel) (by decide +kernel) (by decide +kernel), rdF_no (by decide +kernel) (by decide +kernel) (by decide +kernel)⟩
/-- a Reader at r over the tokens tk of a text of n signs, i of them taken -/
structure RdAt (C : Addr) (H : Hp) (r tl : Addr) (tk : List Tok) (n i : Nat) : Prop where
  ob : ∃ dx, H r = some (.ins C dx (rdF tl n i)) ∧ ToksAt H tl tk
  le : i ≤ tk.length
  small : tk.length ≤ 100000 ∧ ∀ t ∈ tk, t.2.length ≤ 100000
def tok0 (ts : List Tok) : List Nat := ts.head?.elim [] (·.2)
def posOf (n : Nat) (ts : List Tok) : Nat := ts.head?.elim n (·.1)
theorem tok0_drop {tk : List Tok} {i : Nat} {t : Tok} (h : tk[i]? = some t) : tok0 (tk.drop i) = t.2 ∧ ∀ n, posOf n (tk.drop i) = t.1 := by
  have e : (tk.drop i).head? = some t := by rw [List.head?_drop]; exact h
  exact ⟨by unfold tok0; rw [e]; rfl, fun n => by unfold posOf; rw [e]; rfl⟩
theorem tok0_end {tk : List Tok} {i : Nat} (h : tk.length ≤ i) : tok0 (tk.drop i) = [] ∧ ∀ n, posOf n (tk.drop i) = n := by
  rw [List.drop_eq_nil_of_le h]
  exact ⟨rfl, fun n => rfl⟩
theorem tok0_small {C r tl : Addr} {H : Hp} {tk : List Tok} {n i : Nat} (R : RdAt C H r tl tk n i) : (tok0 (tk.drop i)).length ≤ 100000 := by
  by_cases h : i < tk.length
  · have e : tk[i]? = some tk[i] := by simp [h]
    rw [(tok0_drop e).1]
    exact R.small.2 _ (List.getElem_mem h)
  · rw [(tok0_end (by omega)).1]
    exact Nat.zero_le _
theorem RdAt.same {C r tl : Addr} {H H' : Hp} {tk : List Tok} {n i : Nat} (R : RdAt C H r tl tk n i) (e : Same H H') : RdAt C H' r tl tk n i := by
  obtain ⟨⟨dx, h1, h2⟩, le, sm⟩ := R
  exact ⟨⟨dx, e _ _ h1, h2.same e⟩, le, sm⟩
theorem ToksAt.upto {H H' : Hp} {p r C dx : Addr} {fs : List (Str × V)} {tk : List Tok} (h : ToksAt H p tk) (hr : H r = some (.ins C dx fs)) (e : Upto r H H') : ToksAt H' p tk := by
  obtain ⟨rows, h1, h2, h3⟩ := h.ex
  exact ⟨rows, e _ _ (ne_of h1 hr (by intro z; cases z)) h1, h2, fun j q t a b => e _ _ (ne_of (h3 j q t a b) hr (by intro z; cases z)) (h3 j q t a b)⟩
def isW (a : List Nat) (x : Str) : Bool := decide (V.str (S a) = V.str x)
theorem RdAt.re {C r tl dx : Addr} {H H' : Hp} {tk : List Tok} {n i j : Nat} (R : RdAt C H r tl tk n i) (u : Upto r H H') (h : H' r = some (.ins C dx (rdF tl n j))) (hj : j ≤ tk.length) : RdAt C H' r tl tk n j := by
  obtain ⟨⟨dx, h1, h2⟩, le, sm⟩ := R
  exact ⟨⟨_, h, h2.upto h1 u⟩, hj, sm⟩
/-- an error at the position p -/
def BadE (CB : Addr) (E : XK) (r : Addr) (H : Hp) (p : Nat) : Prop := ∀ d H', H d = none → Upto r H H' → H' d = some (.xd [("at", .int (p : Int))]) → E (.ref CB) (some d) H'
theorem BadE.of {CB : Addr} {E : XK} {r : Addr} {H H1 : Hp} {p : Nat} (h : BadE CB E r H p) (hr : H1 r ≠ none) (u : Upto r H H1) : BadE CB E r H1 p := fun d H' hd u' e => h d H' (by
  cases q : H d with
  | none => rfl
  | some o =>
    by_cases hdr : d = r
    · subst hdr
      exact absurd hd hr
    · rw [u d o hdr q] at hd
      cases hd) (u.trans u') e
theorem RdAt.here {C r tl : Addr} {H : Hp} {tk : List Tok} {n i : Nat} (R : RdAt C H r tl tk n i) : H r ≠ none := by
  obtain ⟨⟨dx, h1, _⟩, _⟩ := R
  rw [h1]
  intro z
  cases z
section
variable {P : Program} {w : World} {K : PySem.W.Frag} {mg : Str → Option Value} {base : Heap} {Z : Addrs}
theorem c_BadText___init__ (T : Txt K mg Z) : ExIni P w K mg base 1 Z.C_BadText (spExI Z.C_BadText "at") := by
  refine exi_of T.d_BadText___init__ sc_BadText___init__ (fun vs H Q E h => ?_) (fun f cdv A outer s H vs Q E hr h => ?_)
  · obtain ⟨a, v, rfl, _⟩ := h
    rfl
  · obtain ⟨a, v, rfl, ha, k⟩ := h
    refine ⟨_, pss_one (ps_ost (pv 0) (pv 1)), ?_⟩
    exact ⟨_, rfl, _, rfl, a, Z.C_BadText, rfl, T.x_BadText, T.n_BadText_at, .inl ⟨ha, fun dx hd ne => k dx hd ne⟩⟩
def spRd (C : Addr) (g : List Tok → Nat → V) : Sp := fun vs H Q _ => ∃ r tl tk n i, vs = [.ref r] ∧ RdAt C H r tl tk n i ∧ Q (g (tk.drop i) n) H
theorem c_Reader_token (T : Txt K mg Z) : C8.Met P w K mg base 1 Z.C_Reader "token" (spRd Z.C_Reader fun ts _ => .str (S (tok0 ts))) [] := by
  refine met_of T.cl_Reader T.d_Reader_token sc_Reader_token (fun vs H Q E h => ?_) (fun f cdv A outer s H vs Q E hr h => ?_)
  · obtain ⟨r, tl, tk, n, i, rfl, _⟩ := h
    rfl
  · obtain ⟨r, tl, tk, n, i, rfl, ⟨⟨dx, h1, h2⟩, le, sm⟩, k⟩ := h
    obtain ⟨rows, r1, r2, r3⟩ := h2.ex
    refine ⟨_, (pss_cons (ps_if (pt_cmpR op_lt (pe_fld (pv 0) rfl) (pe_callB call_len_seq (by rfl) T.b_len (by decide +kernel) (pa_cons (pe_fld (pv 0) rfl) pa_nil)) (nomark _)) (pss_one (ps_ret (pe_ix ix_tup (pe_ix ix_list (pe_fld (pv 0) rfl) (pe_fld (pv 0) rfl) (fun _ _ => rfl)) pe_int (fun _ _ => rfl)))) pss_nil)
      (pss_one (ps_ret pe_str))), ?_⟩
    refine ⟨_, rfl, r, _, dx, _, _, rfl, h1, T.cl_Reader, T.n_Reader_place, rdF_P, _, rfl, r, _, dx, _, _, rfl, h1, T.cl_Reader, T.n_Reader_tokens, rdF_T, tl, _, rfl, .inl (SqL.of r1), _, _, rfl, rfl, _, rfl, ?_⟩
    rw [List.length_map, r2]
    refine ite2 (fun h => ?_) (fun h => ?_)
    · have hi : i < tk.length := by simpa using h
      have e1 : rows[i]? = some (rows[i]'(by omega)) := by simp [r2, hi]
      have e2 : tk[i]? = some tk[i] := by simp [hi]
      have e3 := r3 i _ _ e1 e2
      refine ⟨_, rfl, r, _, dx, _, _, rfl, h1, T.cl_Reader, T.n_Reader_tokens, rdF_T, _, rfl, r, _, dx, _, _, rfl, h1, T.cl_Reader, T.n_Reader_place, rdF_P, tl, _, (i : Int), _, rfl, rfl, SqL.of r1, atI_nat (by rw [List.getElem?_map, e1]; rfl), ?_⟩
      refine ⟨_, _, 1, _, rfl, rfl, SqT.of e3, atI_nat (j := 1) rfl, ?_⟩
      dsimp only at k
      rw [(tok0_drop e2).1] at k
      exact k
    · have hi : ¬ i < tk.length := by simpa using h
      dsimp only at k
      rw [(tok0_end (by omega)).1] at k
      exact k
theorem c_Reader_position (T : Txt K mg Z) : C8.Met P w K mg base 1 Z.C_Reader "position" (spRd Z.C_Reader fun ts n => .int (posOf n ts : Nat)) [] := by
  refine met_of T.cl_Reader T.d_Reader_position sc_Reader_position (fun vs H Q E h => ?_) (fun f cdv A outer s H vs Q E hr h => ?_)
  · obtain ⟨r, tl, tk, n, i, rfl, _⟩ := h
    rfl
  · obtain ⟨r, tl, tk, n, i, rfl, ⟨⟨dx, h1, h2⟩, le, sm⟩, k⟩ := h
    obtain ⟨rows, r1, r2, r3⟩ := h2.ex
    refine ⟨_, (pss_cons (ps_if (pt_cmpR op_lt (pe_fld (pv 0) rfl) (pe_callB call_len_seq (by rfl) T.b_len (by decide +kernel) (pa_cons (pe_fld (pv 0) rfl) pa_nil)) (nomark _)) (pss_one (ps_ret (pe_ix ix_tup (pe_ix ix_list (pe_fld (pv 0) rfl) (pe_fld (pv 0) rfl) (fun _ _ => rfl)) pe_int (fun _ _ => rfl)))) pss_nil)
      (pss_one (ps_ret (pe_fld (pv 0) rfl)))), ?_⟩
    refine ⟨_, rfl, r, _, dx, _, _, rfl, h1, T.cl_Reader, T.n_Reader_place, rdF_P, _, rfl, r, _, dx, _, _, rfl, h1, T.cl_Reader, T.n_Reader_tokens, rdF_T, tl, _, rfl, .inl (SqL.of r1), _, _, rfl, rfl, _, rfl, ?_⟩
    rw [List.length_map, r2]
    refine ite2 (fun h => ?_) (fun h => ?_)
    · have hi : i < tk.length := by simpa using h
      have e1 : rows[i]? = some (rows[i]'(by omega)) := by simp [r2, hi]
      have e2 : tk[i]? = some tk[i] := by simp [hi]
      have e3 := r3 i _ _ e1 e2
      refine ⟨_, rfl, r, _, dx, _, _, rfl, h1, T.cl_Reader, T.n_Reader_tokens, rdF_T, _, rfl, r, _, dx, _, _, rfl, h1, T.cl_Reader, T.n_Reader_place, rdF_P, tl, _, (i : Int), _, rfl, rfl, SqL.of r1, atI_nat (by rw [List.getElem?_map, e1]; rfl), ?_⟩
      refine ⟨_, _, 0, _, rfl, rfl, SqT.of e3, atI_nat (j := 0) rfl, ?_⟩
      dsimp only at k
      rw [(tok0_drop e2).2] at k
      exact k
    · have hi : ¬ i < tk.length := by simpa using h
      dsimp only at k
      rw [(tok0_end (by omega)).2] at k
      exact ⟨_, rfl, r, _, dx, _, _, rfl, h1, T.cl_Reader, T.n_Reader_length, rdF_L, k⟩
def spAdv (C : Addr) : Sp := fun vs H Q _ => ∃ r tl tk n i, vs = [.ref r] ∧ RdAt C H r tl tk n i ∧ i < tk.length ∧ ∀ H', RdAt C H' r tl tk n (i + 1) → Upto r H H' → Q (.str (S (tok0 (tk.drop i)))) H'
theorem c_Reader_advance (T : Txt K mg Z) : C8.Met P w K mg base 2 Z.C_Reader "advance" (spAdv Z.C_Reader) [] := by
  have c_Reader_token : C8.Met P w K mg base 1 Z.C_Reader "token" _ [] := c_Reader_token T
  refine met_of T.cl_Reader T.d_Reader_advance sc_Reader_advance (fun vs H Q E h => ?_) (fun f cdv A outer s H vs Q E hr h => ?_)
  · obtain ⟨r, tl, tk, n, i, rfl, _⟩ := h
    rfl
  · obtain ⟨r, tl, tk, n, i, rfl, R, hi, k⟩ := h
    obtain ⟨⟨dx, h1, h2⟩, le, sm⟩ := id R
    refine ⟨_, (pss_cons (ps_set (i := 1) sc_Reader_advance.nd rfl (by first | exact Or.inl rfl | exact Or.inr rfl) (C8.pe_mt0 c_Reader_token hr (by omega) (pv 0)))
      (pss_cons (ps_fld (pv 0) (pe_op op_add (pe_fld (pv 0) rfl) pe_int) rfl)
      (pss_one (ps_ret (pv 1))))), ?_⟩
    refine ⟨_, rfl, r, dx, _, rfl, h1, m_no.1, r, tl, tk, n, i, rfl, R, ?_⟩
    refine ⟨_, rfl, r, _, dx, _, _, rfl, h1, T.cl_Reader, T.n_Reader_place, rdF_P, _, _, rfl, rfl, _, rfl, r, _, dx, _, rfl, h1, T.cl_Reader, T.n_Reader_place, (by show 3 < 1000; decide), ?_⟩
    refine ⟨_, rfl, k _ ⟨⟨dx, ?_, h2.upto h1 Upto.at⟩, hi, sm⟩ Upto.at⟩
    refine upd_same.trans ?_
    show some (HO.ins _ dx (putF "place" (.int ((i + 1 : Nat) : Int)) (rdF tl n i))) = _
    rw [rdF_put]
/-- a method that takes a token if it is fit -/
def spTok (C CB : Addr) (arg : List V) (fit : List Nat → Bool) : Sp := fun vs H Q E => ∃ r tl tk n i, vs = .ref r :: arg ∧ RdAt C H r tl tk n i ∧ fit [] = false ∧
  (fit (tok0 (tk.drop i)) = true → ∀ H', i < tk.length → RdAt C H' r tl tk n (i + 1) → Upto r H H' → Q (.str (S (tok0 (tk.drop i)))) H') ∧ (fit (tok0 (tk.drop i)) = false → BadE CB E r H (posOf n (tk.drop i)))
theorem fit_lt {fit : List Nat → Bool} {tk : List Tok} {i : Nat} (h0 : fit [] = false) (h : fit (tok0 (tk.drop i)) = true) : i < tk.length := by
  by_cases hi : i < tk.length
  · exact hi
  · rw [(tok0_end (by omega)).1, h0] at h
    cases h
theorem c_Reader_take (T : Txt K mg Z) (wd : Str) : MetX P w K mg base 3 Z.C_Reader "take" (spTok Z.C_Reader Z.C_BadText [.str wd] fun a => isW a wd) := by
  have c_Reader_token : C8.Met P w K mg base 1 Z.C_Reader "token" _ [] := c_Reader_token T
  have c_Reader_position : C8.Met P w K mg base 1 Z.C_Reader "position" _ [] := c_Reader_position T
  have c_Reader_advance : C8.Met P w K mg base 2 Z.C_Reader "advance" _ [] := c_Reader_advance T
  have c_BadText___init__ : ExIni P w K mg base 1 Z.C_BadText (spExI Z.C_BadText "at") := c_BadText___init__ T
  refine metX_of T.cl_Reader T.d_Reader_take sc_Reader_take (fun vs H Q E h => ?_) (fun f cdv A outer s H vs Q E hr h => ?_)
  · obtain ⟨r, tl, tk, n, i, rfl, _⟩ := h
    rfl
  · obtain ⟨r, tl, tk, n, i, rfl, R, h0, kt, kf⟩ := h
    obtain ⟨⟨dx, h1, h2⟩, le, sm⟩ := id R
    refine ⟨_, (pss_cons (ps_if (pt_cmpR op_ne (C8.pe_mt0 c_Reader_token hr (by omega) (pv 0)) (pv 1) (nomark _)) (pss_one (ps_bad rfl (takes_of rfl rfl rfl rfl) T.x_BadText T.k_BadText c_BadText___init__ hr (by omega) rfl (pa_cons (C8.pe_mt0 c_Reader_position hr (by omega) (pv 0)) pa_nil))) pss_nil)
      (pss_one (ps_ret (C8.pe_mt0 c_Reader_advance hr (by omega) (pv 0))))), ?_⟩
    refine ⟨_, rfl, r, dx, _, rfl, h1, m_no.1, r, tl, tk, n, i, rfl, R, _, rfl, rfl, _, rfl, ?_⟩
    refine ite2 (fun h => ?_) (fun h => ?_)
    · have hn : isW (tok0 (tk.drop i)) wd = false := by simpa [isW] using h
      refine ⟨_, rfl, r, dx, _, rfl, h1, m_no.2.1, r, tl, tk, n, i, rfl, R, bad_k fun d H' hd s e => kf hn d H' hd (Upto.of s) e⟩
    · have hn : isW (tok0 (tk.drop i)) wd = true := by simpa [isW] using h
      have hi := fit_lt (fit := fun a => isW a wd) h0 hn
      exact ⟨_, rfl, r, dx, _, rfl, h1, m_no.2.2.1, r, tl, tk, n, i, rfl, R, hi, fun H' => kt hn H' hi⟩
theorem c_Reader_take_word (T : Txt K mg Z) : MetX P w K mg base 3 Z.C_Reader "take_word" (spTok Z.C_Reader Z.C_BadText [] wordL) := by
  have c_Reader_token : C8.Met P w K mg base 1 Z.C_Reader "token" _ [] := c_Reader_token T
  have c_Reader_position : C8.Met P w K mg base 1 Z.C_Reader "position" _ [] := c_Reader_position T
  have c_Reader_advance : C8.Met P w K mg base 2 Z.C_Reader "advance" _ [] := c_Reader_advance T
  have c_fits_word : Cal P w K mg base 2 "fits_word" spWord [] := c_fits_word T
  have c_BadText___init__ : ExIni P w K mg base 1 Z.C_BadText (spExI Z.C_BadText "at") := c_BadText___init__ T
  refine metX_of T.cl_Reader T.d_Reader_take_word sc_Reader_take_word (fun vs H Q E h => ?_) (fun f cdv A outer s H vs Q E hr h => ?_)
  · obtain ⟨r, tl, tk, n, i, rfl, _⟩ := h
    rfl
  · obtain ⟨r, tl, tk, n, i, rfl, R, h0, kt, kf⟩ := h
    obtain ⟨⟨dx, h1, h2⟩, le, sm⟩ := id R
    refine ⟨_, (pss_cons (ps_if (pt_not (pt_val (pe_c c_fits_word hr (by omega) rfl (pa_cons (C8.pe_mt0 c_Reader_token hr (by omega) (pv 0)) pa_nil)))) (pss_one (ps_bad rfl (takes_of rfl rfl rfl rfl) T.x_BadText T.k_BadText c_BadText___init__ hr (by omega) rfl (pa_cons (C8.pe_mt0 c_Reader_position hr (by omega) (pv 0)) pa_nil))) pss_nil)
      (pss_one (ps_ret (C8.pe_mt0 c_Reader_advance hr (by omega) (pv 0))))), ?_⟩
    refine ⟨_, rfl, r, dx, _, rfl, h1, m_no.1, r, tl, tk, n, i, rfl, R, tok0 (tk.drop i), rfl, tok0_small R, fun H1 e1 => ⟨_, rfl, ?_⟩⟩
    have h1' := e1 _ _ h1
    have R1 := R.same e1
    refine ite2 (fun h => ?_) (fun h => ?_)
    · have hn : wordL (tok0 (tk.drop i)) = false := by simpa using h
      refine ⟨_, rfl, r, dx, _, rfl, h1', m_no.2.1, r, tl, tk, n, i, rfl, R1, bad_k fun d H' hd s e => kf hn d H' (e1.free hd) (Upto.of (e1.trans s)) e⟩
    · have hn : wordL (tok0 (tk.drop i)) = true := by simpa using h
      have hi := fit_lt h0 hn
      exact ⟨_, rfl, r, dx, _, rfl, h1', m_no.2.2.1, r, tl, tk, n, i, rfl, R1, hi, fun H' a b => kt hn H' hi a ((Upto.of e1).trans b)⟩
theorem c_Reader_take_class (T : Txt K mg Z) : MetX P w K mg base 3 Z.C_Reader "take_class" (spTok Z.C_Reader Z.C_BadText [] classL) := by
  have c_Reader_token : C8.Met P w K mg base 1 Z.C_Reader "token" _ [] := c_Reader_token T
  have c_Reader_position : C8.Met P w K mg base 1 Z.C_Reader "position" _ [] := c_Reader_position T
  have c_Reader_advance : C8.Met P w K mg base 2 Z.C_Reader "advance" _ [] := c_Reader_advance T
  have c_fits_class : Cal P w K mg base 2 "fits_class" spClass [] := c_fits_class T
  have c_BadText___init__ : ExIni P w K mg base 1 Z.C_BadText (spExI Z.C_BadText "at") := c_BadText___init__ T
  refine metX_of T.cl_Reader T.d_Reader_take_class sc_Reader_take_class (fun vs H Q E h => ?_) (fun f cdv A outer s H vs Q E hr h => ?_)
  · obtain ⟨r, tl, tk, n, i, rfl, _⟩ := h
    rfl
  · obtain ⟨r, tl, tk, n, i, rfl, R, h0, kt, kf⟩ := h
    obtain ⟨⟨dx, h1, h2⟩, le, sm⟩ := id R
    refine ⟨_, (pss_cons (ps_if (pt_not (pt_val (pe_c c_fits_class hr (by omega) rfl (pa_cons (C8.pe_mt0 c_Reader_token hr (by omega) (pv 0)) pa_nil)))) (pss_one (ps_bad rfl (takes_of rfl rfl rfl rfl) T.x_BadText T.k_BadText c_BadText___init__ hr (by omega) rfl (pa_cons (C8.pe_mt0 c_Reader_position hr (by omega) (pv 0)) pa_nil))) pss_nil)
      (pss_one (ps_ret (C8.pe_mt0 c_Reader_advance hr (by omega) (pv 0))))), ?_⟩
    refine ⟨_, rfl, r, dx, _, rfl, h1, m_no.1, r, tl, tk, n, i, rfl, R, tok0 (tk.drop i), rfl, tok0_small R, fun H1 e1 => ⟨_, rfl, ?_⟩⟩
    have h1' := e1 _ _ h1
    have R1 := R.same e1
    refine ite2 (fun h => ?_) (fun h => ?_)
    · have hn : classL (tok0 (tk.drop i)) = false := by simpa using h
      refine ⟨_, rfl, r, dx, _, rfl, h1', m_no.2.1, r, tl, tk, n, i, rfl, R1, bad_k fun d H' hd s e => kf hn d H' (e1.free hd) (Upto.of (e1.trans s)) e⟩
    · have hn : classL (tok0 (tk.drop i)) = true := by simpa using h
      have hi := fit_lt h0 hn
      exact ⟨_, rfl, r, dx, _, rfl, h1', m_no.2.2.1, r, tl, tk, n, i, rfl, R1, hi, fun H' a b => kt hn H' hi a ((Upto.of e1).trans b)⟩
def spFin (C CB : Addr) : Sp := fun vs H Q E => ∃ r tl tk n i, vs = [.ref r] ∧ RdAt C H r tl tk n i ∧ (tk.drop i = [] → Q .non H) ∧ (tk.drop i ≠ [] → BadE CB E r H (posOf n (tk.drop i)))
theorem c_Reader_finish (T : Txt K mg Z) : MetX P w K mg base 3 Z.C_Reader "finish" (spFin Z.C_Reader Z.C_BadText) := by
  have c_Reader_position : C8.Met P w K mg base 1 Z.C_Reader "position" _ [] := c_Reader_position T
  have c_BadText___init__ : ExIni P w K mg base 1 Z.C_BadText (spExI Z.C_BadText "at") := c_BadText___init__ T
  refine metX_of T.cl_Reader T.d_Reader_finish sc_Reader_finish (fun vs H Q E h => ?_) (fun f cdv A outer s H vs Q E hr h => ?_)
  · obtain ⟨r, tl, tk, n, i, rfl, _⟩ := h
    rfl
  · obtain ⟨r, tl, tk, n, i, rfl, R, kt, kf⟩ := h
    obtain ⟨⟨dx, h1, h2⟩, le, sm⟩ := id R
    obtain ⟨rows, r1, r2, r3⟩ := h2.ex
    refine ⟨_, (pss_one (ps_if (pt_cmpR op_lt (pe_fld (pv 0) rfl) (pe_callB call_len_seq (by rfl) T.b_len (by decide +kernel) (pa_cons (pe_fld (pv 0) rfl) pa_nil)) (nomark _)) (pss_one (ps_bad rfl (takes_of rfl rfl rfl rfl) T.x_BadText T.k_BadText c_BadText___init__ hr (by omega) rfl (pa_cons (C8.pe_mt0 c_Reader_position hr (by omega) (pv 0)) pa_nil))) pss_nil)), ?_⟩
    refine ⟨_, rfl, r, _, dx, _, _, rfl, h1, T.cl_Reader, T.n_Reader_place, rdF_P, _, rfl, r, _, dx, _, _, rfl, h1, T.cl_Reader, T.n_Reader_tokens, rdF_T, tl, _, rfl, .inl (SqL.of r1), _, _, rfl, rfl, _, rfl, ?_⟩
    rw [List.length_map, r2]
    refine ite2 (fun h => ?_) (fun h => ?_)
    · have hi : i < tk.length := by simpa using h
      have ne : tk.drop i ≠ [] := fun z => by
        have := List.drop_eq_nil_iff.mp z
        omega
      refine ⟨_, rfl, r, dx, _, rfl, h1, m_no.2.1, r, tl, tk, n, i, rfl, R, bad_k fun d H' hd s e => kf ne d H' hd (Upto.of s) e⟩
    · have hi : ¬ i < tk.length := by simpa using h
      exact kt (List.drop_eq_nil_of_le (by omega))
/-- Reader(text): a text, or none -/
def spNew (K : PySem.W.Frag) (C CB : Addr) : Sp := fun vs H Q E => ∃ (x dx : Addr) (v : V) (z : Option (List Nat)), vs = [.ref x, v] ∧ H x = some (.ins C dx []) ∧ StrOr K H v z ∧
  (∀ a, z = some a → ∀ TL H', H TL = none → RdAt C H' x TL (toks a) a.length 0 → Upto x H H' → Q .non H') ∧ (z = none → ∀ d H', H d = none → Same H H' → H' d = some (.xd [("at", .int (-1))]) → E (.ref CB) (some d) H')
theorem c_Reader___init__ (T : Txt K mg Z) : MakX P w K mg base 4 Z.C_Reader (spNew K Z.C_Reader Z.C_BadText) := by
  have c_tokens_of : Cal P w K mg base 3 "tokens_of" spToks [] := c_tokens_of T
  have c_BadText___init__ : ExIni P w K mg base 1 Z.C_BadText (spExI Z.C_BadText "at") := c_BadText___init__ T
  refine makX_of T.d_Reader___init__ sc_Reader___init__ (fun vs H Q E h => ?_) (fun f cdv A outer s H vs Q E hr h => ?_)
  · obtain ⟨x, dx, v, z, rfl, _⟩ := h
    rfl
  · obtain ⟨x, dx, v, z, rfl, hx, ⟨t, ty, ki, hz⟩, kt, kf⟩ := h
    refine ⟨_, (pss_cons (ps_if (pt_not (pt_val (pe_callB call_isi (by rfl) T.b_isinstance (by decide +kernel) (pa_cons (pv 1) (pa_cons (pe_bltn (v := .ty "str") (by rfl) T.b_str (by decide +kernel) rfl) pa_nil))))) (pss_one (ps_bad rfl (takes_of rfl rfl rfl rfl) T.x_BadText T.k_BadText c_BadText___init__ hr (by omega) rfl (pa_cons (pe_un un_neg pe_int) pa_nil))) pss_nil)
      (pss_cons (ps_fld (pv 0) (pe_c c_tokens_of hr (by omega) rfl (pa_cons (pv 1) pa_nil)) rfl)
      (pss_cons (ps_fld (pv 0) (pe_callB call_len_str (by rfl) T.b_len (by decide +kernel) (pa_cons (pv 1) pa_nil)) rfl)
      (pss_one (ps_fld (pv 0) pe_int rfl))))), ?_⟩
    refine ⟨_, rfl, _, _, _, _, _, rfl, .ty _, ty, ki, _, rfl, ?_⟩
    cases z with
    | none =>
      refine iteT ?_
      exact ⟨_, rfl, bad_k fun d H' hd s e => kf rfl d H' hd s e⟩
    | some a =>
      obtain ⟨rfl, hl⟩ := hz a rfl
      refine iteF ?_
      refine ⟨_, rfl, a, rfl, hl, fun p H1 hp e1 TA => ?_⟩
      have hx1 := e1 _ _ hx
      have hpx : p ≠ x := fun e => by subst e; rw [hx] at hp; cases hp
      refine ⟨_, rfl, x, _, dx, _, rfl, hx1, T.cl_Reader, T.n_Reader_tokens, (by show 0 < 1000; decide), ?_⟩
      refine ⟨_, rfl, S a, rfl, szl hl, _, rfl, x, _, dx, _, rfl, upd_same, T.cl_Reader, T.n_Reader_length, (by show 1 < 1000; decide), ?_⟩
      refine ⟨_, rfl, x, _, dx, _, rfl, upd_same, T.cl_Reader, T.n_Reader_place, Nat.lt_of_le_of_lt (few _ _ (few _ _ (Nat.zero_le 0))) (by decide), ?_⟩
      rw [upd_upd, upd_upd, S_len]
      have eF := rdF_made (tl := p) (n := a.length) (i := 0)
      rw [show (V.int 0) = V.int ((0 : Nat) : Int) by rfl, eF]
      exact kt a rfl p _ hp ⟨⟨dx, upd_same, TA.upto hx1 Upto.at⟩, Nat.zero_le _, ⟨Nat.le_trans (toks_len a) hl, fun t ht => Nat.le_trans (tokF_le a _ _ t ht) hl⟩⟩ ((Upto.of e1).trans Upto.at)
end

/-! ### 3d. the mirror of the reading of bodies -/
abbrev PR := Except (List Tok) (PyData × List Tok)
def pTok (fit : List Nat → Bool) (ts : List Tok) : Except (List Tok) (List Nat × List Tok) := if fit (tok0 ts) = true then .ok (tok0 ts, ts.tail) else .error ts
theorem pTok_t {fit : List Nat → Bool} {ts : List Tok} (h : fit (tok0 ts) = true) : pTok fit ts = .ok (tok0 ts, ts.tail) := if_pos h
theorem pTok_f {fit : List Nat → Bool} {ts : List Tok} (h : fit (tok0 ts) = false) : pTok fit ts = .error ts := if_neg (by rw [h]; exact Bool.false_ne_true)
abbrev is (x : Str) : List Nat → Bool := fun a => isW a x
def pIf (blk : List Tok → PR) (ts : List Tok) : PR := match pTok wordL ts with
  | .error e => .error e
  | .ok (x, r1) => match blk r1 with
    | .error e => .error e
    | .ok (a, r2) => match pTok (is "else") r2 with
      | .error e => .error e
      | .ok (_, r3) => match blk r3 with
        | .error e => .error e
        | .ok (b, r4) => .ok (.tuple [.str "if", .str (S x), a, b], r4)
def pTry (blk : List Tok → PR) (ts : List Tok) : PR := match blk ts with
  | .error e => .error e
  | .ok (a, r2) => match pTok (is "catch") r2 with
    | .error e => .error e
    | .ok (_, r3) => match blk r3 with
      | .error e => .error e
      | .ok (b, r4) => .ok (.tuple [.str "try", a, b], r4)
def pMore (blk : List Tok → PR) : Nat → List PyData → List Tok → Except (List Tok) (List PyData × List Tok)
  | 0, acc, ts => .ok (acc, ts)
  | f + 1, acc, ts => if isW (tok0 ts) "or" = true then (match blk ts.tail with
      | .error e => .error e
      | .ok (b, r) => pMore blk f (acc ++ [b]) r) else .ok (acc, ts)
def pEither (blk : List Tok → PR) (ts : List Tok) : PR := match blk ts with
  | .error e => .error e
  | .ok (a, r2) => match pTok (is "or") r2 with
    | .error e => .error e
    | .ok (_, r3) => match blk r3 with
      | .error e => .error e
      | .ok (b, r4) => match pMore blk (r4.length + 1) [a, b] r4 with
        | .error e => .error e
        | .ok (ds, r5) => .ok (.tuple [.str "either", .tuple ds], r5)
def withV : List V := [.str "set", .str "keep", .str "read", .str "look", .str "call"]
def classV : List V := [.str "of", .str "make"]
def stepV : List V := [.str "set", .str "keep", .str "read", .str "look", .str "call", .str "of", .str "make", .str "super", .str "fail", .str "loop", .str "if", .str "try", .str "either"]
def pSemi (d : List PyData) (ts : List Tok) : PR := match pTok (is ";") ts with
  | .error e => .error e
  | .ok (_, r) => .ok (.tuple d, r)
def pSimple (w : List Nat) (ts : List Tok) : PR :=
  if inV (.str (S w)) withV = true then (match pTok wordL ts with
    | .error e => .error e
    | .ok (x, r) => pSemi [.str (S w), .str (S x)] r)
  else if inV (.str (S w)) classV = true then (match pTok classL ts with
    | .error e => .error e
    | .ok (x, r) => pSemi [.str (S w), .str (S x)] r)
  else pSemi [.str (S w)] ts
def pStepW (blk : List Tok → PR) (w : List Nat) (ts : List Tok) : PR :=
  if isW w "loop" = true then (match blk ts with
    | .error e => .error e
    | .ok (b, r) => .ok (.tuple [.str (S w), b], r))
  else if isW w "if" = true then pIf blk ts
  else if isW w "try" = true then pTry blk ts
  else if isW w "either" = true then pEither blk ts
  else pSimple w ts
def pStep (blk : List Tok → PR) (ts : List Tok) : PR := pStepW blk (tok0 ts) ts.tail
def pLoop (step : List Tok → PR) : Nat → List PyData → List Tok → Except (List Tok) (List PyData × List Tok)
  | 0, acc, ts => .ok (acc, ts)
  | f + 1, acc, ts => if inV (.str (S (tok0 ts))) stepV = true then (match step ts with
      | .error e => .error e
      | .ok (d, r) => pLoop step f (acc ++ [d]) r) else .ok (acc, ts)
def pBodyOf (step : List Tok → PR) (ts : List Tok) : PR := match pLoop step (ts.length + 1) [] ts with
  | .error e => .error e
  | .ok (ds, r) => .ok (.tuple ds, r)
def pBraces (body : List Tok → PR) (ts : List Tok) : PR := match pTok (is "{") ts with
  | .error e => .error e
  | .ok (_, r) => match body r with
    | .error e => .error e
    | .ok (b, r2) => match pTok (is "}") r2 with
      | .error e => .error e
      | .ok (_, r3) => .ok (b, r3)
def blkN : Nat → List Tok → PR
  | 0, ts => .error ts
  | n + 1, ts => pBraces (pBodyOf (pStep (blkN n))) ts
def bodyN (n : Nat) : List Tok → PR := pBodyOf (pStep (blkN n))
/-! data without lists: they stay where tuples stay -/
mutual
inductive Dt (K : PySem.W.Frag) (H : Hp) : V → PyData → Prop
  | non : Dt K H .non .none
  | bl (b : Bool) : Dt K H (.bl b) (.bool b)
  | int (i : Int) : Dt K H (.int i) (.int i)
  | str (x : Str) : Dt K H (.str x) (.str x)
  | tup {a : Addr} {xs : List V} {ds : List PyData} : SqT K H a xs → DtAll K H xs ds → Dt K H (.ref a) (.tuple ds)
inductive DtAll (K : PySem.W.Frag) (H : Hp) : List V → List PyData → Prop
  | nil : DtAll K H [] []
  | cons {v : V} {vs : List V} {d : PyData} {ds : List PyData} : Dt K H v d → DtAll K H vs ds → DtAll K H (v :: vs) (d :: ds)
end
section
variable {K : PySem.W.Frag} {H H' : Hp}
mutual
theorem Dt.dp : ∀ (d : PyData) (v : V), Dt K H v d → Dp K H v d
  | .none, _, h => by cases h; exact .non
  | .bool b, _, h => by cases h; exact .bl b
  | .int i, _, h => by cases h; exact .int i
  | .str x, _, h => by cases h; exact .str x
  | .tuple ds, _, h => by
    cases h with
    | tup hs ha => exact .tup hs (DtAll.dp ds _ ha)
  | .list _, _, h => by cases h
  | .dict _, _, h => by cases h
theorem DtAll.dp : ∀ (ds : List PyData) (vs : List V), DtAll K H vs ds → DpAll K H vs ds
  | [], _, h => by cases h; exact .nil
  | d :: ds, _, h => by
    cases h with
    | cons h1 h2 => exact .cons (Dt.dp d _ h1) (DtAll.dp ds _ h2)
end
structure TStay (H H' : Hp) : Prop where
  tup : ∀ a xs, H a = some (.tup xs) → H' a = some (.tup xs)
  frz : ∀ a o u, H a = some (.frz o u) → H' a = some (.frz o u)
theorem TStay.rd {a : Addr} {xs : List V} (e : TStay H H') (h : Rd H a (.tup xs)) : Rd H' a (.tup xs) := by
  rcases h with h | ⟨o, h⟩
  · exact .inl (e.tup a xs h)
  · exact .inr ⟨o, e.frz a _ _ h⟩
mutual
theorem dt_stay (e : TStay H H') : ∀ (d : PyData) (v : V), Dt K H v d → Dt K H' v d
  | .none, _, h => by cases h; exact .non
  | .bool b, _, h => by cases h; exact .bl b
  | .int i, _, h => by cases h; exact .int i
  | .str x, _, h => by cases h; exact .str x
  | .tuple ds, _, h => by
    cases h with
    | tup hs ha => exact .tup (hs.elim (fun z => .inl (e.rd z)) .inr) (dtAll_stay e ds _ ha)
  | .list _, _, h => by cases h
  | .dict _, _, h => by cases h
theorem dtAll_stay (e : TStay H H') : ∀ (ds : List PyData) (vs : List V), DtAll K H vs ds → DtAll K H' vs ds
  | [], _, h => by cases h; exact .nil
  | d :: ds, _, h => by
    cases h with
    | cons h1 h2 => exact .cons (dt_stay e d _ h1) (dtAll_stay e ds _ h2)
end
theorem TStay.of (e : Same H H') : TStay H H' := ⟨fun a xs h => e a _ h, fun a o u h => e a _ h⟩
theorem TStay.up {r C dx : Addr} {fs : List (Str × V)} (h : H r = some (.ins C dx fs)) (e : Upto r H H') : TStay H H' :=
  ⟨fun a xs ha => e a _ (ne_of ha h (by intro z; cases z)) ha, fun a o u ha => e a _ (ne_of ha h (by intro z; cases z)) ha⟩
theorem TStay.lst {p : Addr} {xs : List V} {o : HO} (h : H p = some (.lst xs)) : TStay H (upd H p o) :=
  ⟨fun a ys ha => by rw [upd_ne (ne_of ha h (by intro z; cases z))]; exact ha, fun a o u ha => by rw [upd_ne (ne_of ha h (by intro z; cases z))]; exact ha⟩
theorem TStay.trans {H1 : Hp} (a : TStay H H') (b : TStay H' H1) : TStay H H1 := ⟨fun x xs h => b.tup x xs (a.tup x xs h), fun x o u h => b.frz x o u (a.frz x o u h)⟩
theorem dtAll_snoc : ∀ {vs : List V} {ds : List PyData} {v : V} {d : PyData}, DtAll K H vs ds → Dt K H v d → DtAll K H (vs ++ [v]) (ds ++ [d])
  | [], _, _, _, .nil, h => .cons h .nil
  | _ :: _, _, _, _, .cons a b, h => .cons a (dtAll_snoc b h)
theorem dtAll_len : ∀ {vs : List V} {ds : List PyData}, DtAll K H vs ds → vs.length = ds.length
  | [], _, .nil => rfl
  | _ :: _, _, .cons _ b => congrArg Nat.succ (dtAll_len b)
end
theorem RdAt.dstay {C r tl : Addr} {H H' : Hp} {tk : List Tok} {n i : Nat} (R : RdAt C H r tl tk n i) (e : Upto r H H') : TStay H H' := by
  obtain ⟨⟨dx, h1, _⟩, _⟩ := R
  exact TStay.up h1 e
theorem RdAt.meth {C r tl : Addr} {H : Hp} {tk : List Tok} {n i : Nat} (R : RdAt C H r tl tk n i) : ∃ dx, H r = some (.ins C dx (rdF tl n i)) := by
  obtain ⟨⟨dx, h1, _⟩, _⟩ := R
  exact ⟨dx, h1⟩
theorem drop_tail {tk : List Tok} {i : Nat} : (tk.drop i).tail = tk.drop (i + 1) := by rw [List.tail_drop]
/-- what the reading of a piece is: as m tells, at least k tokens taken -/
def spP (K : PySem.W.Frag) (C CB : Addr) (k : Nat) (arg : List V) (m : List Tok → PR) : Sp := fun vs H Q E => ∃ r tl tk n i, vs = .ref r :: arg ∧ RdAt C H r tl tk n i ∧
  (∀ d rest, m (tk.drop i) = .ok (d, rest) → ∀ v H' j, rest = tk.drop j → i + k ≤ j → RdAt C H' r tl tk n j → Upto r H H' → Dt K H' v d → Q v H') ∧ (∀ rest, m (tk.drop i) = .error rest → BadE CB E r H (posOf n rest))
abbrev depth (n : Nat) : V := .int (6 - (n : Int))
section
variable {P : Program} {w : World} {K : PySem.W.Frag} {mg : Str → Option Value} {base : Heap} {Z : Addrs}
theorem c_read_if (T : Txt K mg Z) {n l : Nat} (hl : 4 ≤ l) (c_read_block : CalX P w K mg base l "read_block" (spP K Z.C_Reader Z.C_BadText 1 [depth n] (blkN n))) : CalX P w K mg base (l + 1) "read_if" (spP K Z.C_Reader Z.C_BadText 1 [depth n] (pIf (blkN n))) := by
  have c_Reader_take_word : MetX P w K mg base 3 Z.C_Reader "take_word" _ := c_Reader_take_word T
  have c_Reader_take := fun x => c_Reader_take (P := P) (w := w) (base := base) T x
  refine calX_of T.d_read_if sc_read_if (fun vs H Q E h => ?_) (fun f cdv A outer s H vs Q E hr h => ?_)
  · obtain ⟨r, tl, tk, n, i, rfl, _⟩ := h
    rfl
  · obtain ⟨r, tl, tk, n0, i, rfl, R, kt, kf⟩ := h
    refine ⟨_, (pss_cons (ps_set (i := 2) sc_read_if.nd rfl (by first | exact Or.inl rfl | exact Or.inr rfl) (pe_mtX0 c_Reader_take_word hr (by omega) (pv 0) (passes_call (takes_of rfl rfl rfl rfl) fun _ _ _ _ h => h) ))
      (pss_cons (ps_set (i := 3) sc_read_if.nd rfl (by first | exact Or.inl rfl | exact Or.inr rfl) (pe_cX c_read_block hr (by omega) rfl (passes_call (takes_of rfl rfl rfl rfl) fun _ _ _ _ h => h) (pa_cons (pv 0) (pa_cons (pv 1) pa_nil))))
      (pss_cons (ps_expr (pe_mtX (c_Reader_take "else") hr (by omega) (pv 0) (passes_call (takes_of rfl rfl rfl rfl) fun _ _ _ _ h => h) (pa_cons pe_str pa_nil)))
      (pss_one (ps_ret (pe_tup (pa_cons pe_str (pa_cons (pv 2) (pa_cons (pv 3) (pa_cons (pe_cX c_read_block hr (by omega) rfl (passes_call (takes_of rfl rfl rfl rfl) fun _ _ _ _ h => h) (pa_cons (pv 0) (pa_cons (pv 1) pa_nil))) pa_nil)))))))))), ?_⟩
    obtain ⟨dx, h1⟩ := R.meth
    refine ⟨_, rfl, r, dx, _, rfl, h1, m_no.2.2.2.2.1, r, tl, tk, n0, i, rfl, R, rfl, fun hw H1 hi R1 u1 => ?_, fun hw => kf _ (by simp only [pIf, pTok_f hw])⟩
    have e1 : pTok wordL (tk.drop i) = .ok (tok0 (tk.drop i), tk.drop (i + 1)) := by rw [pTok_t hw, drop_tail]
    refine ⟨_, rfl, _, rfl, r, tl, tk, n0, i + 1, rfl, R1, fun d rest e2 v H2 j hj hij R2 u2 D2 => ?_, fun rest e2 => (kf _ (by simp only [pIf, e1, e2])).of R1.here u1⟩
    subst hj
    obtain ⟨dx2, h2⟩ := R2.meth
    refine ⟨_, rfl, r, dx2, _, rfl, h2, m_no.2.2.2.1, r, tl, tk, n0, j, rfl, R2, by decide +kernel, fun hw3 H3 hi3 R3 u3 => ?_, fun hw3 => (kf _ (by simp only [pIf, e1, e2, pTok_f (fit := is "else") hw3])).of R2.here (u1.trans u2)⟩
    have e3 : pTok (is "else") (tk.drop j) = .ok (tok0 (tk.drop j), tk.drop (j + 1)) := by rw [pTok_t hw3, drop_tail]
    have D3 := dt_stay (R2.dstay u3) d v D2
    refine ⟨_, rfl, _, rfl, _, rfl, _, rfl, r, tl, tk, n0, j + 1, rfl, R3, fun d4 rest4 e4 v4 H4 j4 hj4 hij4 R4 u4 D4 => ?_, fun rest e4 => (kf _ (by simp only [pIf, e1, e2, e3, e4])).of R3.here (u1.trans (u2.trans u3))⟩
    refine ⟨by show 4 ≤ sizeLine; decide, fun p hp => ?_⟩
    have D5 := dt_stay (R3.dstay u4) d v D3
    have st := Same.new (o := .tup [V.str "if", V.str (S (tok0 (tk.drop i))), v, v4]) hp
    refine kt (.tuple [.str "if", .str (S (tok0 (tk.drop i))), d, d4]) _ (by simp only [pIf, e1, e2, e3, e4]) _ _ j4 hj4 (by omega) (R4.same st) (u1.trans (u2.trans (u3.trans (u4.trans (Upto.of st))))) ?_
    exact .tup (SqT.of upd_same) (.cons (.str _) (.cons (.str _) (.cons (dt_stay (TStay.of st) d v D5) (.cons (dt_stay (TStay.of st) d4 v4 D4) .nil))))
theorem c_read_try (T : Txt K mg Z) {n l : Nat} (hl : 4 ≤ l) (c_read_block : CalX P w K mg base l "read_block" (spP K Z.C_Reader Z.C_BadText 1 [depth n] (blkN n))) : CalX P w K mg base (l + 1) "read_try" (spP K Z.C_Reader Z.C_BadText 1 [depth n] (pTry (blkN n))) := by
  have c_Reader_take := fun x => c_Reader_take (P := P) (w := w) (base := base) T x
  refine calX_of T.d_read_try sc_read_try (fun vs H Q E h => ?_) (fun f cdv A outer s H vs Q E hr h => ?_)
  · obtain ⟨r, tl, tk, n, i, rfl, _⟩ := h
    rfl
  · obtain ⟨r, tl, tk, n0, i, rfl, R, kt, kf⟩ := h
    refine ⟨_, (pss_cons (ps_set (i := 2) sc_read_try.nd rfl (by first | exact Or.inl rfl | exact Or.inr rfl) (pe_cX c_read_block hr (by omega) rfl (passes_call (takes_of rfl rfl rfl rfl) fun _ _ _ _ h => h) (pa_cons (pv 0) (pa_cons (pv 1) pa_nil))))
      (pss_cons (ps_expr (pe_mtX (c_Reader_take "catch") hr (by omega) (pv 0) (passes_call (takes_of rfl rfl rfl rfl) fun _ _ _ _ h => h) (pa_cons pe_str pa_nil)))
      (pss_one (ps_ret (pe_tup (pa_cons pe_str (pa_cons (pv 2) (pa_cons (pe_cX c_read_block hr (by omega) rfl (passes_call (takes_of rfl rfl rfl rfl) fun _ _ _ _ h => h) (pa_cons (pv 0) (pa_cons (pv 1) pa_nil))) pa_nil)))))))), ?_⟩
    refine ⟨_, rfl, _, rfl, r, tl, tk, n0, i, rfl, R, fun d rest e2 v H2 j hj hij R2 u2 D2 => ?_, fun rest e2 => kf _ (by simp only [pTry, e2])⟩
    subst hj
    obtain ⟨dx2, h2⟩ := R2.meth
    refine ⟨_, rfl, r, dx2, _, rfl, h2, m_no.2.2.2.1, r, tl, tk, n0, j, rfl, R2, by decide +kernel, fun hw3 H3 hi3 R3 u3 => ?_, fun hw3 => (kf _ (by simp only [pTry, e2, pTok_f (fit := is "catch") hw3])).of R2.here u2⟩
    have e3 : pTok (is "catch") (tk.drop j) = .ok (tok0 (tk.drop j), tk.drop (j + 1)) := by rw [pTok_t hw3, drop_tail]
    have D3 := dt_stay (R2.dstay u3) d v D2
    refine ⟨_, rfl, _, rfl, _, rfl, r, tl, tk, n0, j + 1, rfl, R3, fun d4 rest4 e4 v4 H4 j4 hj4 hij4 R4 u4 D4 => ?_, fun rest e4 => (kf _ (by simp only [pTry, e2, e3, e4])).of R3.here (u2.trans u3)⟩
    refine ⟨by show 3 ≤ sizeLine; decide, fun p hp => ?_⟩
    have D5 := dt_stay (R3.dstay u4) d v D3
    have st := Same.new (o := .tup [V.str "try", v, v4]) hp
    refine kt (.tuple [.str "try", d, d4]) _ (by simp only [pTry, e2, e3, e4]) _ _ j4 hj4 (by omega) (R4.same st) (u2.trans (u3.trans (u4.trans (Upto.of st)))) ?_
    exact .tup (SqT.of upd_same) (.cons (.str _) (.cons (dt_stay (TStay.of st) d v D5) (.cons (dt_stay (TStay.of st) d4 v4 D4) .nil)))
theorem c_read_braces (T : Txt K mg Z) {n l : Nat} (hl : 4 ≤ l) (c_read_body : CalX P w K mg base l "read_body" (spP K Z.C_Reader Z.C_BadText 0 [depth n] (bodyN n))) : CalX P w K mg base (l + 1) "read_braces" (spP K Z.C_Reader Z.C_BadText 1 [depth n] (pBraces (bodyN n))) := by
  have c_Reader_take := fun x => c_Reader_take (P := P) (w := w) (base := base) T x
  refine calX_of T.d_read_braces sc_read_braces (fun vs H Q E h => ?_) (fun f cdv A outer s H vs Q E hr h => ?_)
  · obtain ⟨r, tl, tk, n, i, rfl, _⟩ := h
    rfl
  · obtain ⟨r, tl, tk, n0, i, rfl, R, kt, kf⟩ := h
    refine ⟨_, (pss_cons (ps_expr (pe_mtX (c_Reader_take "{") hr (by omega) (pv 0) (passes_call (takes_of rfl rfl rfl rfl) fun _ _ _ _ h => h) (pa_cons pe_str pa_nil)))
      (pss_cons (ps_set (i := 2) sc_read_braces.nd rfl (by first | exact Or.inl rfl | exact Or.inr rfl) (pe_cX c_read_body hr (by omega) rfl (passes_call (takes_of rfl rfl rfl rfl) fun _ _ _ _ h => h) (pa_cons (pv 0) (pa_cons (pv 1) pa_nil))))
      (pss_cons (ps_expr (pe_mtX (c_Reader_take "}") hr (by omega) (pv 0) (passes_call (takes_of rfl rfl rfl rfl) fun _ _ _ _ h => h) (pa_cons pe_str pa_nil)))
      (pss_one (ps_ret (pv 2)))))), ?_⟩
    obtain ⟨dx, h1⟩ := R.meth
    refine ⟨_, rfl, r, dx, _, rfl, h1, m_no.2.2.2.1, r, tl, tk, n0, i, rfl, R, by decide +kernel, fun hw H1 hi R1 u1 => ?_, fun hw => kf _ (by simp only [pBraces, pTok_f (fit := is "{") hw])⟩
    have e1 : pTok (is "{") (tk.drop i) = .ok (tok0 (tk.drop i), tk.drop (i + 1)) := by rw [pTok_t hw, drop_tail]
    refine ⟨_, rfl, _, rfl, r, tl, tk, n0, i + 1, rfl, R1, fun d rest e2 v H2 j hj hij R2 u2 D2 => ?_, fun rest e2 => (kf _ (by simp only [pBraces, e1, e2])).of R1.here u1⟩
    subst hj
    obtain ⟨dx2, h2⟩ := R2.meth
    refine ⟨_, rfl, r, dx2, _, rfl, h2, m_no.2.2.2.1, r, tl, tk, n0, j, rfl, R2, by decide +kernel, fun hw3 H3 hi3 R3 u3 => ?_, fun hw3 => (kf _ (by simp only [pBraces, e1, e2, pTok_f (fit := is "}") hw3])).of R2.here (u1.trans u2)⟩
    have e3 : pTok (is "}") (tk.drop j) = .ok (tok0 (tk.drop j), tk.drop (j + 1)) := by rw [pTok_t hw3, drop_tail]
    exact ⟨_, rfl, kt d _ (by simp only [pBraces, e1, e2, e3]) v H3 (j + 1) rfl (by omega) R3 (u1.trans (u2.trans u3)) (dt_stay (R2.dstay u3) d v D2)⟩
/-- a block: none is left | n more -/
theorem c_read_block0 (T : Txt K mg Z) {l : Nat} (hl : 4 ≤ l) (c_read_braces : CalX P w K mg base l "read_braces" (fun _ _ _ _ => False)) : CalX P w K mg base (l + 1) "read_block" (spP K Z.C_Reader Z.C_BadText 1 [depth 0] (blkN 0)) := by
  have c_Reader_position : C8.Met P w K mg base 1 Z.C_Reader "position" _ [] := c_Reader_position T
  have c_BadText___init__ : ExIni P w K mg base 1 Z.C_BadText (spExI Z.C_BadText "at") := c_BadText___init__ T
  refine calX_of T.d_read_block sc_read_block (fun vs H Q E h => ?_) (fun f cdv A outer s H vs Q E hr h => ?_)
  · obtain ⟨r, tl, tk, n, i, rfl, _⟩ := h
    rfl
  · obtain ⟨r, tl, tk, n0, i, rfl, R, kt, kf⟩ := h
    refine ⟨_, (pss_cons (ps_if (pt_cmpR op_eq (pv 1) (pe_gc rfl T.g_DEEPEST) (nomark _)) (pss_one (ps_bad rfl (takes_of rfl rfl rfl rfl) T.x_BadText T.k_BadText c_BadText___init__ hr (by omega) rfl (pa_cons (C8.pe_mt0 c_Reader_position hr (by omega) (pv 0)) pa_nil))) pss_nil)
      (pss_one (ps_ret (pe_cX c_read_braces hr (by omega) rfl (passes_call (takes_of rfl rfl rfl rfl) fun _ _ _ _ h => h) (pa_cons (pv 0) (pa_cons (pe_op op_add (pv 1) pe_int) pa_nil)))))), ?_⟩
    obtain ⟨dx, h1⟩ := R.meth
    refine ⟨_, rfl, rfl, _, rfl, ?_⟩
    refine iteT ?_
    exact ⟨_, rfl, r, dx, _, rfl, h1, m_no.2.1, r, tl, tk, n0, i, rfl, R, bad_k fun d H' hd s e => kf _ rfl d H' hd (Upto.of s) e⟩
theorem c_read_blockS (T : Txt K mg Z) {n l : Nat} (hl : 4 ≤ l) (c_read_braces : CalX P w K mg base l "read_braces" (spP K Z.C_Reader Z.C_BadText 1 [depth n] (pBraces (bodyN n)))) : CalX P w K mg base (l + 1) "read_block" (spP K Z.C_Reader Z.C_BadText 1 [depth (n + 1)] (blkN (n + 1))) := by
  have c_Reader_position : C8.Met P w K mg base 1 Z.C_Reader "position" _ [] := c_Reader_position T
  have c_BadText___init__ : ExIni P w K mg base 1 Z.C_BadText (spExI Z.C_BadText "at") := c_BadText___init__ T
  refine calX_of T.d_read_block sc_read_block (fun vs H Q E h => ?_) (fun f cdv A outer s H vs Q E hr h => ?_)
  · obtain ⟨r, tl, tk, n, i, rfl, _⟩ := h
    rfl
  · obtain ⟨r, tl, tk, n0, i, rfl, R, kt, kf⟩ := h
    refine ⟨_, (pss_cons (ps_if (pt_cmpR op_eq (pv 1) (pe_gc rfl T.g_DEEPEST) (nomark _)) (pss_one (ps_bad rfl (takes_of rfl rfl rfl rfl) T.x_BadText T.k_BadText c_BadText___init__ hr (by omega) rfl (pa_cons (C8.pe_mt0 c_Reader_position hr (by omega) (pv 0)) pa_nil))) pss_nil)
      (pss_one (ps_ret (pe_cX c_read_braces hr (by omega) rfl (passes_call (takes_of rfl rfl rfl rfl) fun _ _ _ _ h => h) (pa_cons (pv 0) (pa_cons (pe_op op_add (pv 1) pe_int) pa_nil)))))), ?_⟩
    refine ⟨_, rfl, rfl, _, rfl, ?_⟩
    refine ite2 (fun h => ?_) (fun h => ?_)
    · have h := of_decide_eq_true h
      have h : (6 : Int) - ((n + 1 : Nat) : Int) = 6 := V.int.inj h
      omega
    · refine ⟨_, rfl, _, rfl, _, _, rfl, rfl, ?_⟩
      have e : (V.int (6 - ((n + 1 : Nat) : Int) + 1)) = depth n := by unfold depth; congr 1; omega
      dsimp only
      rw [e]
      exact ⟨r, tl, tk, n0, i, rfl, R, kt, kf⟩
theorem dp_tok {H : Hp} {ts : List Tok} : Dt K H (.str (S (tok0 ts))) (.str (S (tok0 ts))) := .str _
/-- a step's reading: a word that begins one stands there -/
def spStep (K : PySem.W.Frag) (C CB : Addr) (arg : List V) (m : List Tok → PR) : Sp := fun vs H Q E => ∃ r tl tk n i, vs = .ref r :: arg ∧ RdAt C H r tl tk n i ∧ i < tk.length ∧
  (∀ d rest, m (tk.drop i) = .ok (d, rest) → ∀ v H' j, rest = tk.drop j → i + 1 ≤ j → RdAt C H' r tl tk n j → Upto r H H' → Dt K H' v d → Q v H') ∧ (∀ rest, m (tk.drop i) = .error rest → BadE CB E r H (posOf n rest))
theorem c_read_step (T : Txt K mg Z) {n l : Nat} (hl : 4 ≤ l) (c_read_block : CalX P w K mg base l "read_block" (spP K Z.C_Reader Z.C_BadText 1 [depth n] (blkN n))) (c_read_if : CalX P w K mg base (l + 1) "read_if" (spP K Z.C_Reader Z.C_BadText 1 [depth n] (pIf (blkN n))))
    (c_read_try : CalX P w K mg base (l + 1) "read_try" (spP K Z.C_Reader Z.C_BadText 1 [depth n] (pTry (blkN n)))) (c_read_either : CalX P w K mg base (l + 1) "read_either" (spP K Z.C_Reader Z.C_BadText 1 [depth n] (pEither (blkN n)))) :
    CalX P w K mg base (l + 2) "read_step" (spStep K Z.C_Reader Z.C_BadText [depth n] (pStep (blkN n))) := by
  have c_Reader_advance : C8.Met P w K mg base 2 Z.C_Reader "advance" _ [] := c_Reader_advance T
  have c_Reader_take_word : MetX P w K mg base 3 Z.C_Reader "take_word" _ := c_Reader_take_word T
  have c_Reader_take_class : MetX P w K mg base 3 Z.C_Reader "take_class" _ := c_Reader_take_class T
  have c_Reader_take := fun x => c_Reader_take (P := P) (w := w) (base := base) T x
  refine calX_of T.d_read_step sc_read_step (fun vs H Q E h => ?_) (fun f cdv A outer s H vs Q E hr h => ?_)
  · obtain ⟨r, tl, tk, n, i, rfl, _⟩ := h
    rfl
  · obtain ⟨r, tl, tk, n0, i, rfl, R, hi, kt, kf⟩ := h
    refine ⟨_, (pss_cons (ps_set (i := 2) sc_read_step.nd rfl (by first | exact Or.inl rfl | exact Or.inr rfl) (C8.pe_mt0 c_Reader_advance hr (by omega) (pv 0)))
      (pss_cons (ps_if (pt_cmpR op_eq (pv 2) pe_str (nomark _)) (pss_one (ps_ret (pe_tup (pa_cons (pv 2) (pa_cons (pe_cX c_read_block hr (by omega) rfl (passes_call (takes_of rfl rfl rfl rfl) fun _ _ _ _ h => h) (pa_cons (pv 0) (pa_cons (pv 1) pa_nil))) pa_nil))))) pss_nil)
      (pss_cons (ps_if (pt_cmpR op_eq (pv 2) pe_str (nomark _)) (pss_one (ps_ret (pe_cX c_read_if hr (by omega) rfl (passes_call (takes_of rfl rfl rfl rfl) fun _ _ _ _ h => h) (pa_cons (pv 0) (pa_cons (pv 1) pa_nil))))) pss_nil)
      (pss_cons (ps_if (pt_cmpR op_eq (pv 2) pe_str (nomark _)) (pss_one (ps_ret (pe_cX c_read_try hr (by omega) rfl (passes_call (takes_of rfl rfl rfl rfl) fun _ _ _ _ h => h) (pa_cons (pv 0) (pa_cons (pv 1) pa_nil))))) pss_nil)
      (pss_cons (ps_if (pt_cmpR op_eq (pv 2) pe_str (nomark _)) (pss_one (ps_ret (pe_cX c_read_either hr (by omega) rfl (passes_call (takes_of rfl rfl rfl rfl) fun _ _ _ _ h => h) (pa_cons (pv 0) (pa_cons (pv 1) pa_nil))))) pss_nil)
      (pss_cons (ps_set (i := 3) sc_read_step.nd rfl (by first | exact Or.inl rfl | exact Or.inr rfl) (pe_tup (pa_cons (pv 2) pa_nil)))
      (C8.pss_cut (ps_if (pt_cmpR op_in_seq (pv 2) (pe_gc rfl T.g_WITH_WORD) (by with_unfolding_all rfl)) (pss_one (ps_set (i := 3) sc_read_step.nd rfl (by first | exact Or.inl rfl | exact Or.inr rfl) (pe_tup (pa_cons (pv 2) (pa_cons (pe_mtX0 c_Reader_take_word hr (by omega) (pv 0) (passes_call (takes_of rfl rfl rfl rfl) fun _ _ _ _ h => h) ) pa_nil))))) (pss_one (ps_if (pt_cmpR op_in_seq (pv 2) (pe_gc rfl T.g_WITH_CLASS) (by with_unfolding_all rfl)) (pss_one (ps_set (i := 3) sc_read_step.nd rfl (by first | exact Or.inl rfl | exact Or.inr rfl) (pe_tup (pa_cons (pv 2) (pa_cons (pe_mtX0 c_Reader_take_class hr (by omega) (pv 0) (passes_call (takes_of rfl rfl rfl rfl) fun _ _ _ _ h => h) ) pa_nil))))) pss_nil)))
      (pss_cons (ps_expr (pe_mtX (c_Reader_take ";") hr (by omega) (pv 0) (passes_call (takes_of rfl rfl rfl rfl) fun _ _ _ _ h => h) (pa_cons pe_str pa_nil)))
      (pss_one (ps_ret (pv 3))))))))))), ?_⟩
    obtain ⟨dx, h1⟩ := R.meth
    refine ⟨_, rfl, r, dx, _, rfl, h1, m_no.2.2.1, r, tl, tk, n0, i, rfl, R, hi, fun H1 R1 u1 => ?_⟩
    have eS : pStep (blkN n) (tk.drop i) = pStepW (blkN n) (tok0 (tk.drop i)) (tk.drop (i + 1)) := by unfold pStep; rw [drop_tail]
    generalize hw : tok0 (tk.drop i) = wd at eS ⊢
    unfold pStepW at eS
    have pass : ∀ {m : List Tok → PR}, pStep (blkN n) (tk.drop i) = m (tk.drop (i + 1)) → (∀ d rest, m (tk.drop (i + 1)) = .ok (d, rest) → ∀ v H' j, rest = tk.drop j → i + 1 + 1 ≤ j → RdAt Z.C_Reader H' r tl tk n0 j → Upto r H1 H' → Dt K H' v d → Q v H') ∧ (∀ rest, m (tk.drop (i + 1)) = .error rest → BadE Z.C_BadText E r H1 (posOf n0 rest)) :=
      fun {m} e => ⟨fun d rest e2 v H' j hj hij R' u' D' => kt d rest (e.trans e2) v H' j hj (by omega) R' (u1.trans u') D', fun rest e2 => (kf rest (e.trans e2)).of R1.here u1⟩
    -- loop
    refine ⟨_, rfl, rfl, _, rfl, ?_⟩
    refine ite2 (fun c1 => ?_) (fun c1 => ?_)
    · have c1' : isW wd "loop" = true := c1
      rw [if_pos c1'] at eS
      refine ⟨_, rfl, _, rfl, _, rfl, r, tl, tk, n0, i + 1, rfl, R1, fun d rest e v H2 j hj hij R2 u2 D2 => ?_, fun rest e => (kf _ (by rw [eS, e])).of R1.here u1⟩
      refine ⟨by show 2 ≤ sizeLine; decide, fun p hp => ?_⟩
      have st := Same.new (o := .tup [V.str (S wd), v]) hp
      exact kt (.tuple [.str (S wd), d]) _ (by rw [eS, e]) _ _ j hj (by omega) (R2.same st) (u1.trans (u2.trans (Upto.of st))) (.tup (SqT.of upd_same) (.cons (.str _) (.cons (dt_stay (TStay.of st) d v D2) .nil)))
    have c1' : isW wd "loop" = false := by simpa [isW] using c1
    rw [if_neg (by rw [c1']; exact Bool.false_ne_true)] at eS
    -- if
    refine ⟨_, rfl, rfl, _, rfl, ?_⟩
    refine ite2 (fun c2 => ?_) (fun c2 => ?_)
    · have c2' : isW wd "if" = true := c2
      rw [if_pos c2'] at eS
      exact ⟨_, rfl, _, rfl, r, tl, tk, n0, i + 1, rfl, R1, (pass eS).1, (pass eS).2⟩
    have c2' : isW wd "if" = false := by simpa [isW] using c2
    rw [if_neg (by rw [c2']; exact Bool.false_ne_true)] at eS
    -- try
    refine ⟨_, rfl, rfl, _, rfl, ?_⟩
    refine ite2 (fun c3 => ?_) (fun c3 => ?_)
    · have c3' : isW wd "try" = true := c3
      rw [if_pos c3'] at eS
      exact ⟨_, rfl, _, rfl, r, tl, tk, n0, i + 1, rfl, R1, (pass eS).1, (pass eS).2⟩
    have c3' : isW wd "try" = false := by simpa [isW] using c3
    rw [if_neg (by rw [c3']; exact Bool.false_ne_true)] at eS
    -- either
    refine ⟨_, rfl, rfl, _, rfl, ?_⟩
    refine ite2 (fun c4 => ?_) (fun c4 => ?_)
    · have c4' : isW wd "either" = true := c4
      rw [if_pos c4'] at eS
      exact ⟨_, rfl, _, rfl, r, tl, tk, n0, i + 1, rfl, R1, (pass eS).1, (pass eS).2⟩
    have c4' : isW wd "either" = false := by simpa [isW] using c4
    rw [if_neg (by rw [c4']; exact Bool.false_ne_true)] at eS
    -- step = (word,)
    refine ⟨_, rfl, by show 1 ≤ sizeLine; decide, fun p hp => ?_⟩
    have st := Same.new (o := .tup [V.str (S wd)]) hp
    have R2 := R1.same st
    have u2 := u1.trans (Upto.of st)
    refine ⟨fun σ' H' => ∃ (q : Addr) (ds : List PyData) (j : Nat), σ' = [some (.ref r), some (depth n), some (.str (S wd)), some (.ref q)] ∧ Upto r H H' ∧ RdAt Z.C_Reader H' r tl tk n0 j ∧ i + 1 ≤ j ∧ Dt K H' (.ref q) (.tuple ds) ∧ pStep (blkN n) (tk.drop i) = pSemi ds (tk.drop j), ?_, ?_⟩
    · refine ⟨_, rfl, Z.C_WITH_WORD, withV, rfl, .inr (T.t_WITH_WORD _), rfl, rfl, _, rfl, ?_⟩
      unfold pSimple at eS
      refine ite2 (fun c5 => ?_) (fun c5 => ?_)
      · have c5 : inV (V.str (S wd)) withV = true := c5
        rw [if_pos c5] at eS
        obtain ⟨dx2, h2⟩ := R2.meth
        refine ⟨_, rfl, _, rfl, r, dx2, _, rfl, h2, m_no.2.2.2.2.1, r, tl, tk, n0, i + 1, rfl, R2, rfl, fun hw H3 hi3 R3 u3 => ?_, fun hw => (kf _ (by rw [eS, pTok_f hw])).of R2.here u2⟩
        rw [pTok_t hw, drop_tail] at eS
        refine ⟨by show 2 ≤ sizeLine; decide, fun q hq => ?_⟩
        have s3 := Same.new (o := .tup [V.str (S wd), V.str (S (tok0 (tk.drop (i + 1))))]) hq
        exact ⟨q, _, i + 1 + 1, rfl, u2.trans (u3.trans (Upto.of s3)), R3.same s3, by omega, .tup (SqT.of upd_same) (.cons (.str _) (.cons (.str _) .nil)), eS⟩
      · have c5 : ¬ inV (V.str (S wd)) withV = true := c5
        rw [if_neg c5] at eS
        refine ⟨_, rfl, Z.C_WITH_CLASS, classV, rfl, .inr (T.t_WITH_CLASS _), rfl, rfl, _, rfl, ?_⟩
        refine ite2 (fun c6 => ?_) (fun c6 => ?_)
        · have c6 : inV (V.str (S wd)) classV = true := c6
          rw [if_pos c6] at eS
          obtain ⟨dx2, h2⟩ := R2.meth
          refine ⟨_, rfl, _, rfl, r, dx2, _, rfl, h2, m_no.2.2.2.2.2.1, r, tl, tk, n0, i + 1, rfl, R2, rfl, fun hw H3 hi3 R3 u3 => ?_, fun hw => (kf _ (by rw [eS, pTok_f hw])).of R2.here u2⟩
          rw [pTok_t hw, drop_tail] at eS
          refine ⟨by show 2 ≤ sizeLine; decide, fun q hq => ?_⟩
          have s3 := Same.new (o := .tup [V.str (S wd), V.str (S (tok0 (tk.drop (i + 1))))]) hq
          exact ⟨q, _, i + 1 + 1, rfl, u2.trans (u3.trans (Upto.of s3)), R3.same s3, by omega, .tup (SqT.of upd_same) (.cons (.str _) (.cons (.str _) .nil)), eS⟩
        · have c6 : ¬ inV (V.str (S wd)) classV = true := c6
          rw [if_neg c6] at eS
          exact ⟨p, _, i + 1, rfl, u2, R2, by omega, .tup (SqT.of upd_same) (.cons (.str _) .nil), eS⟩
    · rintro σ' H' ⟨q, ds, j, rfl, u3, R3, hij, D3, eQ⟩
      obtain ⟨dx3, h3⟩ := R3.meth
      refine ⟨_, rfl, r, dx3, _, rfl, h3, m_no.2.2.2.1, r, tl, tk, n0, j, rfl, R3, by decide +kernel, fun hw H4 hi4 R4 u4 => ?_, fun hw => (kf _ (by rw [eQ]; unfold pSemi; rw [pTok_f (fit := is ";") hw])).of R3.here u3⟩
      refine ⟨_, rfl, kt (.tuple ds) _ (by rw [eQ]; unfold pSemi; rw [pTok_t (fit := is ";") hw, drop_tail]) _ H4 (j + 1) rfl (by omega) R4 (u3.trans u4) (dt_stay (R3.dstay u4) _ _ D3)⟩
theorem c_read_body (T : Txt K mg Z) {n l : Nat} (hl : 4 ≤ l) (c_read_step : CalX P w K mg base l "read_step" (spStep K Z.C_Reader Z.C_BadText [depth n] (pStep (blkN n)))) : CalX P w K mg base (l + 1) "read_body" (spP K Z.C_Reader Z.C_BadText 0 [depth n] (bodyN n)) := by
  have c_Reader_token : C8.Met P w K mg base 1 Z.C_Reader "token" _ [] := c_Reader_token T
  refine calX_of T.d_read_body sc_read_body (fun vs H Q E h => ?_) (fun f cdv A outer s H vs Q E hr h => ?_)
  · obtain ⟨r, tl, tk, n, i, rfl, _⟩ := h
    rfl
  · obtain ⟨r, tl, tk, n0, i, rfl, R, kt, kf⟩ := h
    refine ⟨_, (pss_cons (ps_set (i := 2) sc_read_body.nd rfl (by first | exact Or.inl rfl | exact Or.inr rfl) (pe_lst pa_nil))
      (pss_cons (ps_while (passes_of rfl) (pt_cmpR op_in_seq (C8.pe_mt0 c_Reader_token hr (by omega) (pv 0)) (pe_gc rfl T.g_STEP_WORDS) (by with_unfolding_all rfl)) (pss_one (ps_expr (pe_bm PySem.F.plainAttrs_list PySem.F.slot_list_append PySem.F.type_list_append mt_append (pv 2) (pa_cons (pe_cX c_read_step hr (by omega) rfl (passes_call (takes_of rfl rfl rfl rfl) fun _ _ _ _ h => h) (pa_cons (pv 0) (pa_cons (pv 1) pa_nil))) pa_nil)))))
      (pss_one (ps_ret (pe_callTy call_tuple_of (by rfl) T.b_tuple (by decide +kernel) (pa_cons (pv 2) pa_nil)))))), ?_⟩
    refine ⟨by decide, fun p hp => ?_⟩
    have hrp : r ≠ p := fun e => by subst e; exact R.here hp
    let W : Nat → L2.St → Hp → Prop := fun m σ H1 => ∃ (i' f : Nat) (vs : List V) (ds : List PyData), σ = [some (.ref r), some (depth n), some (.ref p)] ∧ Upto r H H1 ∧ RdAt Z.C_Reader H1 r tl tk n0 i' ∧ i ≤ i' ∧ H1 p = some (.lst vs) ∧ DtAll K H1 vs ds ∧
      pLoop (pStep (blkN n)) ((tk.drop i).length + 1) [] (tk.drop i) = pLoop (pStep (blkN n)) f ds (tk.drop i') ∧ tk.length < i' + f ∧ m = tk.length - i' ∧ vs.length ≤ i'
    refine ⟨W, ⟨tk.length - i, i, (tk.drop i).length + 1, [], [], rfl, Upto.of (Same.new hp), R.same (Same.new hp), Nat.le_refl _, upd_same, .nil, rfl, by rw [List.length_drop]; have := R.le; omega, rfl, Nat.zero_le _⟩, ?_⟩
    rintro m σ H1 ⟨i', f, vs, ds, rfl, u1, R1, hii, hp1, D1, eL, hf, rfl, hvs⟩
    obtain ⟨dx, h1⟩ := R1.meth
    refine ⟨_, rfl, r, dx, _, rfl, h1, m_no.1, r, tl, tk, n0, i', rfl, R1, Z.C_STEP_WORDS, stepV, rfl, .inr (T.t_STEP_WORDS _), rfl, rfl, _, rfl, ?_⟩
    refine ite2 (fun c => ?_) (fun c => ?_)
    · have c : inV (V.str (S (tok0 (tk.drop i')))) stepV = true := c
      have hi : i' < tk.length := by
        by_cases hi : i' < tk.length
        · exact hi
        · rw [(tok0_end (by omega)).1] at c
          exact absurd c (by decide +kernel)
      obtain ⟨f, rfl⟩ : ∃ f', f = f' + 1 := ⟨f - 1, by omega⟩
      have eF : pLoop (pStep (blkN n)) (f + 1) ds (tk.drop i') = (match pStep (blkN n) (tk.drop i') with
        | .error e => .error e
        | .ok (d, r) => pLoop (pStep (blkN n)) f (ds ++ [d]) r) := by
        conv => lhs; unfold pLoop
        rw [if_pos c]
      rw [eF] at eL
      refine ⟨fun σ' H' => ∃ m', m' < tk.length - i' ∧ W m' σ' H', fun _ _ h => h, ?_⟩
      refine ⟨_, rfl, .inl ⟨rfl, _, SqL.of hp1⟩, _, rfl, _, rfl, r, tl, tk, n0, i', rfl, R1, hi, fun d rest e v H2 j hj hij R2 u2 D2 => ?_, fun rest e => (kf _ ?_).of R1.here u1⟩
      · subst hj
        rw [e] at eL
        have hp2 : H2 p = some (.lst vs) := u2 _ _ hrp.symm hp1
        refine ⟨p, vs, v, rfl, rfl, hp2, Nat.lt_of_le_of_lt (Nat.le_trans hvs (Nat.le_of_lt hi)) ?_, ?_⟩
        · exact Nat.lt_of_le_of_lt R.small.1 (by decide)
        · obtain ⟨dx2, h2⟩ := R2.meth
          have u3 : Upto r H (upd H2 p (.lst (vs ++ [v]))) := fun a o ha e => by
            rw [upd_ne (ne_of_none e hp)]
            exact (u1.trans u2) a o ha e
          have ts := TStay.lst (o := .lst (vs ++ [v])) hp2
          exact ⟨tk.length - j, by omega, j, f, vs ++ [v], ds ++ [d], rfl, u3, R.re u3 (by rw [upd_ne hrp]; exact h2) R2.le, by omega, upd_same, dtAll_snoc (dtAll_stay (TStay.trans (R1.dstay u2) ts) ds vs D1) (dt_stay ts d v D2), eL, by omega, rfl, by simp; omega⟩
      · rw [e] at eL
        unfold bodyN pBodyOf
        rw [eL]
    · have c : ¬ inV (V.str (S (tok0 (tk.drop i')))) stepV = true := c
      have eF : pLoop (pStep (blkN n)) f ds (tk.drop i') = .ok (ds, tk.drop i') := by
        cases f with
        | zero => rfl
        | succ f =>
          unfold pLoop
          rw [if_neg c]
      rw [eF] at eL
      refine ⟨_, rfl, p, vs, rfl, .inl ⟨SqL.of hp1, fun q hq => ?_⟩⟩
      have st := Same.new (o := .tup vs) hq
      exact kt (.tuple ds) (tk.drop i') (by unfold bodyN pBodyOf; rw [eL]) _ _ i' rfl (by omega) (R1.same st) (u1.trans (Upto.of st)) (.tup (SqT.of upd_same) (dtAll_stay (TStay.of st) ds vs D1))
theorem c_read_either (T : Txt K mg Z) {n l : Nat} (hl : 4 ≤ l) (c_read_block : CalX P w K mg base l "read_block" (spP K Z.C_Reader Z.C_BadText 1 [depth n] (blkN n))) : CalX P w K mg base (l + 1) "read_either" (spP K Z.C_Reader Z.C_BadText 1 [depth n] (pEither (blkN n))) := by
  have c_Reader_token : C8.Met P w K mg base 1 Z.C_Reader "token" _ [] := c_Reader_token T
  have c_Reader_take := fun x => c_Reader_take (P := P) (w := w) (base := base) T x
  refine calX_of T.d_read_either sc_read_either (fun vs H Q E h => ?_) (fun f cdv A outer s H vs Q E hr h => ?_)
  · obtain ⟨r, tl, tk, n, i, rfl, _⟩ := h
    rfl
  · obtain ⟨r, tl, tk, n0, i, rfl, R, kt, kf⟩ := h
    refine ⟨_, (pss_cons (ps_set (i := 2) sc_read_either.nd rfl (by first | exact Or.inl rfl | exact Or.inr rfl) (pe_lst (pa_cons (pe_cX c_read_block hr (by omega) rfl (passes_call (takes_of rfl rfl rfl rfl) fun _ _ _ _ h => h) (pa_cons (pv 0) (pa_cons (pv 1) pa_nil))) pa_nil)))
      (pss_cons (ps_expr (pe_mtX (c_Reader_take "or") hr (by omega) (pv 0) (passes_call (takes_of rfl rfl rfl rfl) fun _ _ _ _ h => h) (pa_cons pe_str pa_nil)))
      (pss_cons (ps_expr (pe_bm PySem.F.plainAttrs_list PySem.F.slot_list_append PySem.F.type_list_append mt_append (pv 2) (pa_cons (pe_cX c_read_block hr (by omega) rfl (passes_call (takes_of rfl rfl rfl rfl) fun _ _ _ _ h => h) (pa_cons (pv 0) (pa_cons (pv 1) pa_nil))) pa_nil)))
      (pss_cons (ps_while (passes_of rfl) (pt_cmpR op_eq (C8.pe_mt0 c_Reader_token hr (by omega) (pv 0)) pe_str (nomark _)) (pss_cons (ps_expr (pe_mtX (c_Reader_take "or") hr (by omega) (pv 0) (passes_call (takes_of rfl rfl rfl rfl) fun _ _ _ _ h => h) (pa_cons pe_str pa_nil)))
      (pss_one (ps_expr (pe_bm PySem.F.plainAttrs_list PySem.F.slot_list_append PySem.F.type_list_append mt_append (pv 2) (pa_cons (pe_cX c_read_block hr (by omega) rfl (passes_call (takes_of rfl rfl rfl rfl) fun _ _ _ _ h => h) (pa_cons (pv 0) (pa_cons (pv 1) pa_nil))) pa_nil))))))
      (pss_one (ps_ret (pe_tup (pa_cons pe_str (pa_cons (pe_callTy call_tuple_of (by rfl) T.b_tuple (by decide +kernel) (pa_cons (pv 2) pa_nil)) pa_nil))))))))), ?_⟩
    -- blocks = [read_block(reader, depth)]
    refine ⟨_, rfl, _, rfl, r, tl, tk, n0, i, rfl, R, fun d rest e1 v H1 j hj hij R1 u1 D1 => ?_, fun rest e => kf _ (by simp only [pEither, e])⟩
    subst hj
    refine ⟨by show 1 ≤ sizeLine; decide, fun p hp => ?_⟩
    have hrp : r ≠ p := fun e => by subst e; exact R1.here hp
    have hp0 : H p = none := by
      cases q : H p with
      | none => rfl
      | some o =>
        rw [u1 p o hrp.symm q] at hp
        cases hp
    have st := Same.new (o := .lst [v]) hp
    have R2 := R1.same st
    obtain ⟨dx2, h2⟩ := R2.meth
    -- reader.take('or')
    refine ⟨_, rfl, r, dx2, _, rfl, h2, m_no.2.2.2.1, r, tl, tk, n0, j, rfl, R2, by decide +kernel, fun hw H3 hi3 R3 u3 => ?_, fun hw => (kf _ (by simp only [pEither, e1, pTok_f (fit := is "or") hw])).of R2.here (u1.trans (Upto.of st))⟩
    have e2 : pTok (is "or") (tk.drop j) = .ok (tok0 (tk.drop j), tk.drop (j + 1)) := by rw [pTok_t hw, drop_tail]
    have hp3 : H3 p = some (.lst [v]) := u3 _ _ hrp.symm upd_same
    have u03 := u1.trans ((Upto.of st).trans u3)
    have D3 := dt_stay (R2.dstay u3) d v (dt_stay (TStay.of st) d v D1)
    -- blocks.append(read_block(reader, depth))
    refine ⟨_, rfl, .inl ⟨rfl, _, SqL.of hp3⟩, _, rfl, _, rfl, r, tl, tk, n0, j + 1, rfl, R3, fun d4 rest4 e4 v4 H4 j4 hj4 hij4 R4 u4 D4 => ?_, fun rest e => (kf _ (by simp only [pEither, e1, e2, e])).of R3.here u03⟩
    subst hj4
    have hp4 : H4 p = some (.lst [v]) := u4 _ _ hrp.symm hp3
    refine ⟨p, _, v4, rfl, rfl, hp4, by show 1 < sizeLine; decide, ?_⟩
    have fresh : ∀ {H' : Hp} {xs : List V}, Upto r H H' → Upto r H (upd H' p (.lst xs)) := fun {H' xs} u a o ha e => by
      rw [upd_ne (ne_of_none e hp0)]
      exact u a o ha e
    obtain ⟨dx4, h4⟩ := R4.meth
    have u5 := fresh (xs := [v] ++ [v4]) (u03.trans u4)
    have ts := TStay.lst (o := .lst ([v] ++ [v4])) hp4
    have R5 := R.re u5 (by rw [upd_ne hrp]; exact h4) R4.le
    have D5 : DtAll K (upd H4 p (.lst ([v] ++ [v4]))) [v, v4] [d, d4] := .cons (dt_stay (TStay.trans (R3.dstay u4) ts) d v D3) (.cons (dt_stay ts d4 v4 D4) .nil)
    -- while reader.token() == 'or'
    let W : Nat → L2.St → Hp → Prop := fun m σ H1 => ∃ (i' f : Nat) (vs : List V) (ds : List PyData), σ = [some (.ref r), some (depth n), some (.ref p)] ∧ Upto r H H1 ∧ RdAt Z.C_Reader H1 r tl tk n0 i' ∧ i + 1 ≤ i' ∧ H1 p = some (.lst vs) ∧ DtAll K H1 vs ds ∧
      pMore (blkN n) ((tk.drop j4).length + 1) [d, d4] (tk.drop j4) = pMore (blkN n) f ds (tk.drop i') ∧ tk.length < i' + f ∧ m = tk.length - i' ∧ vs.length ≤ i'
    have e0 : ∀ X, pMore (blkN n) ((tk.drop j4).length + 1) [d, d4] (tk.drop j4) = X → pEither (blkN n) (tk.drop i) = (match X with
        | .error e => .error e
        | .ok (ds, r5) => .ok (.tuple [.str "either", .tuple ds], r5)) := fun X e => by
      subst e
      simp only [pEither, e1, e2, e4]
    refine ⟨W, ⟨tk.length - j4, j4, (tk.drop j4).length + 1, _, [d, d4], rfl, u5, R5, by omega, upd_same, D5, rfl, by rw [List.length_drop]; have := R5.le; omega, rfl, by show 2 ≤ j4; omega⟩, ?_⟩
    rintro m σ H6 ⟨i', f, vs, ds, rfl, u6, R6, hii, hp6, D6, eL, hf, rfl, hvs⟩
    obtain ⟨dx6, h6⟩ := R6.meth
    refine ⟨_, rfl, r, dx6, _, rfl, h6, m_no.1, r, tl, tk, n0, i', rfl, R6, rfl, _, rfl, ?_⟩
    refine ite2 (fun c => ?_) (fun c => ?_)
    · have c : isW (tok0 (tk.drop i')) "or" = true := c
      have hi : i' < tk.length := fit_lt (fit := is "or") (by decide +kernel) c
      obtain ⟨f, rfl⟩ : ∃ f', f = f' + 1 := ⟨f - 1, by omega⟩
      have eF : pMore (blkN n) (f + 1) ds (tk.drop i') = (match blkN n (tk.drop (i' + 1)) with
        | .error e => .error e
        | .ok (d, r) => pMore (blkN n) f (ds ++ [d]) r) := by
        conv => lhs; unfold pMore
        rw [if_pos c, drop_tail]
      rw [eF] at eL
      refine ⟨fun σ' H' => ∃ m', m' < tk.length - i' ∧ W m' σ' H', fun _ _ h => h, ?_⟩
      refine ⟨_, rfl, r, dx6, _, rfl, h6, m_no.2.2.2.1, r, tl, tk, n0, i', rfl, R6, by decide +kernel, fun hw H7 hi7 R7 u7 => ?_, fun hw => absurd (c.symm.trans hw) (by decide)⟩
      have hp7 : H7 p = some (.lst vs) := u7 _ _ hrp.symm hp6
      refine ⟨_, rfl, .inl ⟨rfl, _, SqL.of hp7⟩, _, rfl, _, rfl, r, tl, tk, n0, i' + 1, rfl, R7, fun d8 rest8 e8 v8 H8 j8 hj8 hij8 R8 u8 D8 => ?_, fun rest e => (kf _ ?_).of R7.here (u6.trans u7)⟩
      · subst hj8
        rw [e8] at eL
        have hp8 : H8 p = some (.lst vs) := u8 _ _ hrp.symm hp7
        refine ⟨p, vs, v8, rfl, rfl, hp8, Nat.lt_of_le_of_lt (Nat.le_trans hvs (Nat.le_of_lt hi)) (Nat.lt_of_le_of_lt R.small.1 (by decide)), ?_⟩
        obtain ⟨dx8, h8⟩ := R8.meth
        have u9 := fresh (xs := vs ++ [v8]) (u6.trans (u7.trans u8))
        have ts8 := TStay.lst (o := .lst (vs ++ [v8])) hp8
        exact ⟨tk.length - j8, by omega, j8, f, vs ++ [v8], ds ++ [d8], rfl, u9, R.re u9 (by rw [upd_ne hrp]; exact h8) R8.le, by omega, upd_same, dtAll_snoc (dtAll_stay (TStay.trans (R6.dstay u7) (TStay.trans (R7.dstay u8) ts8)) ds vs D6) (dt_stay ts8 d8 v8 D8), eL, by omega, rfl, by simp; omega⟩
      · rw [e] at eL
        rw [e0 _ eL]
    · have c : ¬ isW (tok0 (tk.drop i')) "or" = true := c
      have eF : pMore (blkN n) f ds (tk.drop i') = .ok (ds, tk.drop i') := by
        cases f with
        | zero => rfl
        | succ f =>
          unfold pMore
          rw [if_neg c]
      rw [eF] at eL
      refine ⟨_, rfl, p, vs, rfl, .inl ⟨SqL.of hp6, fun q hq => ?_⟩⟩
      have st6 := Same.new (o := .tup vs) hq
      refine ⟨by show 2 ≤ sizeLine; decide, fun z hz => ?_⟩
      have st7 := Same.new (o := .tup [V.str "either", V.ref q]) hz
      have st8 := st6.trans st7
      exact kt (.tuple [.str "either", .tuple ds]) (tk.drop i') (by rw [e0 _ eL]) _ _ i' rfl (by omega) (R6.same st8) (u6.trans (Upto.of st8)) (.tup (SqT.of upd_same) (.cons (.str _) (.cons (.tup (SqT.of (st7 _ _ upd_same)) (dtAll_stay (TStay.of st8) ds vs D6)) .nil)))
/-- all of it, n blocks deep -/
structure Reads5 (P : Program) (w : World) (K : PySem.W.Frag) (mg : Str → Option Value) (base : Heap) (Z : Addrs) (n : Nat) : Prop where
  body : CalX P w K mg base (9 + 5 * n) "read_body" (spP K Z.C_Reader Z.C_BadText 0 [depth n] (bodyN n))
  braces : CalX P w K mg base (10 + 5 * n) "read_braces" (spP K Z.C_Reader Z.C_BadText 1 [depth n] (pBraces (bodyN n)))
theorem CalX.mono {k l : Nat} {x : Str} {sp : Sp} (c : CalX P w K mg base k x sp) (h : k ≤ l) : CalX P w K mg base l x sp := by
  obtain ⟨f, fd, ps, F, a, b, d⟩ := c.ex
  exact ⟨f, fd, ps, F.mono h, a, b, d⟩
theorem body_of_block (T : Txt K mg Z) {n l : Nat} (hl : 4 ≤ l) (c : CalX P w K mg base l "read_block" (spP K Z.C_Reader Z.C_BadText 1 [depth n] (blkN n))) : CalX P w K mg base (l + 3) "read_body" (spP K Z.C_Reader Z.C_BadText 0 [depth n] (bodyN n)) :=
  c_read_body T (by omega) (c_read_step T hl c (c_read_if T hl c) (c_read_try T hl c) (c_read_either T hl c))
theorem no_braces (T : Txt K mg Z) : CalX P w K mg base 5 "read_braces" (fun _ _ _ _ => False) := by
  refine calX_of (k := 4) T.d_read_braces sc_read_braces (fun vs H Q E h => h.elim) (fun f cdv A outer s H vs Q E hr h => h.elim)
theorem reads5 (T : Txt K mg Z) : ∀ n, Reads5 P w K mg base Z n
  | 0 => by
    have c := c_read_block0 (P := P) (w := w) (base := base) T (l := 5) (by omega) (no_braces T)
    have b := body_of_block T (by omega) c
    exact ⟨b, (c_read_braces T (by omega) b)⟩
  | n + 1 => by
    have ih := reads5 T n
    have c := c_read_blockS T (by omega) ih.braces
    have b := body_of_block T (by omega) c
    have b' : CalX P w K mg base (9 + 5 * (n + 1)) "read_body" (spP K Z.C_Reader Z.C_BadText 0 [depth (n + 1)] (bodyN (n + 1))) := b.mono (by omega)
    exact ⟨b', (c_read_braces T (by omega) b').mono (by omega)⟩
end

/-! ### 3e. read_steps -/
def pFin (n : Nat) : PR → Except Int PyData
  | .error r => .error (posOf n r)
  | .ok (d, []) => .ok d
  | .ok (_, t :: r) => .error (posOf n (t :: r))
def pSteps : Option (List Nat) → Except Int PyData
  | none => .error (-1)
  | some a => pFin a.length (bodyN 6 (toks a))
theorem pSteps_some {a : List Nat} {R : PR} (e : bodyN 6 (toks a) = R) : pSteps (some a) = pFin a.length R := by
  subst e
  rfl
/-- what a def that reads a text is -/
def spRead (K : PySem.W.Frag) (CB : Addr) (m : Option (List Nat) → Except Int PyData) : Sp := fun vs H Q E => ∃ v z, vs = [v] ∧ StrOr K H v z ∧
  (∀ d, m z = .ok d → ∀ u H', Same H H' → Dt K H' u d → Q u H') ∧ (∀ p, m z = .error p → ∀ d H', H d = none → Same H H' → H' d = some (.xd [("at", .int p)]) → E (.ref CB) (some d) H')
theorem tyx_same {K : PySem.W.Frag} {H H' : Hp} (e : Same H H') {v : V} {t : Value} (h : TyX K H v t) : TyX K H' v t := by
  cases h with
  | base b =>
    cases b with
    | non => exact .base .non
    | bl x => exact .base (.bl x)
    | int x => exact .base (.int x)
    | str x => exact .base (.str x)
    | flt x => exact .base (.flt x)
    | lst q => exact .base (.lst (e _ _ q))
    | frz q => exact .base (.frz (e _ _ q))
    | tup q => exact .base (.tup (e _ _ q))
    | dK q => exact .base (.dK (e _ _ q))
    | dT q => exact .base (.dT (e _ _ q))
    | ins q cl ha hn htk hm => exact .base (.ins (e _ _ q) cl ha hn htk hm)
  | byt b => exact .byt b
  | set q => exact .set (e _ _ q)
  | kList q c => exact .kList q c
  | kTuple q c => exact .kTuple q c
  | kDict q c => exact .kDict q c
  | fTuple q => exact .fTuple (e _ _ q)
  | fDict q => exact .fDict (e _ _ q)
theorem StrOr.mono {K : PySem.W.Frag} {H H' : Hp} {v : V} {z : Option (List Nat)} (e : Same H H') (h : StrOr K H v z) : StrOr K H' v z := by
  obtain ⟨t, ty, ki, hz⟩ := h
  exact ⟨t, tyx_same e ty, ki, hz⟩
theorem StrOr.same {K : PySem.W.Frag} {H H' : Hp} {a : List Nat} (h : StrOr K H (.str (S a)) (some a)) : StrOr K H' (.str (S a)) (some a) := by
  obtain ⟨t, ty, ki, hz⟩ := h
  exact ⟨_, .base (.str _), kit_ty (show kitB "str" "str" = some true by decide +kernel), hz⟩
theorem new_same {H H' : Hp} {x dx C : Addr} (nx : H x = none) (nd : H dx = none) (u : Upto x (upd (upd H dx (.own x)) x (.ins C dx [])) H') : Same H H' := fun b o e =>
  u b o (ne_of_none e nx) (by rw [upd_ne (ne_of_none e nx), upd_ne (ne_of_none e nd)]; exact e)
section
variable {P : Program} {w : World} {K : PySem.W.Frag} {mg : Str → Option Value} {base : Heap} {Z : Addrs}
theorem c_read_steps (T : Txt K mg Z) : CalX P w K mg base 40 "read_steps" (spRead K Z.C_BadText pSteps) := by
  have c_Reader___init__ : MakX P w K mg base 4 Z.C_Reader _ := c_Reader___init__ T
  have c_Reader_finish : MetX P w K mg base 3 Z.C_Reader "finish" _ := c_Reader_finish T
  have c_read_body : CalX P w K mg base 39 "read_body" _ := (reads5 T 6).body
  refine calX_of T.d_read_steps sc_read_steps (fun vs H Q E h => ?_) (fun f cdv A outer s H vs Q E hr h => ?_)
  · obtain ⟨v, z, rfl, _⟩ := h
    rfl
  · obtain ⟨v, z, rfl, hz, kt, kf⟩ := h
    refine ⟨_, (pss_cons (ps_set (i := 1) sc_read_steps.nd rfl (by first | exact Or.inl rfl | exact Or.inr rfl) (pe_mkX c_Reader___init__ hr (by omega) rfl T.k_Reader (passes_call (takes_of rfl rfl rfl rfl) fun _ _ _ _ h => h) (pa_cons (pv 0) pa_nil)))
      (pss_cons (ps_set (i := 2) sc_read_steps.nd rfl (by first | exact Or.inl rfl | exact Or.inr rfl) (pe_cX c_read_body hr (by omega) rfl (passes_call (takes_of rfl rfl rfl rfl) fun _ _ _ _ h => h) (pa_cons (pv 1) (pa_cons pe_int pa_nil))))
      (pss_cons (ps_expr (pe_mtX0 c_Reader_finish hr (by omega) (pv 1) (passes_call (takes_of rfl rfl rfl rfl) fun _ _ _ _ h => h) ))
      (pss_one (ps_ret (pv 2)))))), ?_⟩
    refine ⟨_, rfl, fun x dx nx nd ne => ?_⟩
    have s0 : Same H (upd (upd H dx (.own x)) x (.ins Z.C_Reader dx [])) := fun b o e => by rw [upd_ne (ne_of_none e nx), upd_ne (ne_of_none e nd)]; exact e
    cases z with
    | none =>
      exact ⟨x, dx, v, none, rfl, upd_same, hz.mono s0, (fun a e => by cases e), fun _ d H' hd s e => kf _ rfl d H' (s0.free hd) (s0.trans s) e⟩
    | some a =>
      obtain ⟨_, _, _, hv⟩ := id hz
      obtain ⟨rfl, hl⟩ := hv a rfl
      refine ⟨x, dx, _, some a, rfl, upd_same, hz.same, fun a' e TL H1 _ R1 u1 => ⟨rfl, ?_⟩, fun e => by cases e⟩
      cases e
      refine ⟨_, rfl, x, TL, toks a, a.length, 0, rfl, R1, fun d rest e2 v2 H2 j hj hij R2 u2 D2 => ?_, fun rest e2 => ?_⟩
      · subst hj
        obtain ⟨dx2, h2⟩ := R2.meth
        have sm := new_same nx nd (u1.trans u2)
        have e2 : bodyN 6 (toks a) = .ok (d, (toks a).drop j) := e2
        refine ⟨_, rfl, x, dx2, _, rfl, h2, m_no.2.2.2.2.2.2, x, TL, toks a, a.length, j, rfl, R2, fun he => ⟨_, rfl, ?_⟩, fun he d3 H3 hd u3 e3 => ?_⟩
        · exact kt d (by rw [pSteps_some e2, he]; rfl) v2 H2 sm D2
        · refine kf _ ?_ d3 H3 (sm.free hd) (new_same nx nd (u1.trans (u2.trans u3))) e3
          rw [pSteps_some e2]
          cases q : (toks a).drop j with
          | nil => exact absurd q he
          | cons t r => rfl
      · have e2 : bodyN 6 (toks a) = .error rest := e2
        intro d3 H3 hd u3 e3
        have sm := new_same nx nd u1
        exact kf _ (by rw [pSteps_some e2]; rfl) d3 H3 (sm.free hd) (new_same nx nd (u1.trans u3)) e3
end

/-! ### 4. bodies as trees: their data, their signs; signs are read back -/
inductive Stp where
  | word (w x : List Nat)
  | cls (w x : List Nat)
  | bare (w : List Nat)
  | loop (b : List Stp)
  | iff (x : List Nat) (a b : List Stp)
  | tr (a b : List Stp)
  | ei (bs : List (List Stp))
def kw (x : Str) : List Nat := x.cps.toList
theorem S_kw (x : Str) : S (kw x) = x := S_tl x
theorem isW_kw (x : Str) : isW (kw x) x = true := decide_eq_true (by rw [S_kw])
theorem isW_iff {a : List Nat} {x : Str} : isW a x = true ↔ a = kw x := by
  unfold isW kw
  rw [decide_eq_true_eq]
  constructor
  · intro e
    have := V.str.inj e
    rw [← this]
  · intro e
    rw [e, S_tl]
mutual
def datS : Stp → PyData
  | .word w x => .tuple [.str (S w), .str (S x)]
  | .cls w x => .tuple [.str (S w), .str (S x)]
  | .bare w => .tuple [.str (S w)]
  | .loop b => .tuple [.str "loop", .tuple (datB b)]
  | .iff x a b => .tuple [.str "if", .str (S x), .tuple (datB a), .tuple (datB b)]
  | .tr a b => .tuple [.str "try", .tuple (datB a), .tuple (datB b)]
  | .ei bs => .tuple [.str "either", .tuple (datL bs)]
def datB : List Stp → List PyData
  | [] => []
  | s :: b => datS s :: datB b
def datL : List (List Stp) → List PyData
  | [] => []
  | b :: bs => .tuple (datB b) :: datL bs
end
mutual
def sgS : Stp → List (List Nat)
  | .word w x => [w, x, kw ";"]
  | .cls w x => [w, x, kw ";"]
  | .bare w => [w, kw ";"]
  | .loop b => kw "loop" :: (kw "{" :: (sgB b ++ [kw "}"]))
  | .iff x a b => kw "if" :: x :: (kw "{" :: (sgB a ++ [kw "}"])) ++ kw "else" :: (kw "{" :: (sgB b ++ [kw "}"]))
  | .tr a b => kw "try" :: (kw "{" :: (sgB a ++ [kw "}"])) ++ kw "catch" :: (kw "{" :: (sgB b ++ [kw "}"]))
  | .ei bs => sgE true bs
def sgB : List Stp → List (List Nat)
  | [] => []
  | s :: b => sgS s ++ sgB b
def sgE : Bool → List (List Stp) → List (List Nat)
  | _, [] => []
  | f, b :: bs => (if f then kw "either" else kw "or") :: (kw "{" :: (sgB b ++ [kw "}"])) ++ sgE false bs
end
def sgK (b : List Stp) : List (List Nat) := kw "{" :: (sgB b ++ [kw "}"])
/-- well formed, ok for the blocks given -/
def okSt (okk : List Stp → Prop) : Stp → Prop
  | .word w x => inV (.str (S w)) withV = true ∧ wordL x = true
  | .cls w x => inV (.str (S w)) classV = true ∧ classL x = true
  | .bare w => w = kw "super" ∨ w = kw "fail"
  | .loop b => okk b
  | .iff x a b => wordL x = true ∧ okk a ∧ okk b
  | .tr a b => okk a ∧ okk b
  | .ei bs => 2 ≤ bs.length ∧ ∀ b ∈ bs, okk b
def okK : Nat → List Stp → Prop
  | 0, _ => False
  | n + 1, b => ∀ s ∈ b, okSt (okK n) s
def txs (ts : List Tok) : List (List Nat) := ts.map (·.2)
theorem tok0_strs {ts : List Tok} {x : List Nat} {r : List (List Nat)} (h : txs ts = x :: r) : tok0 ts = x ∧ txs ts.tail = r := by
  cases ts with
  | nil => cases h
  | cons t ts =>
    injection h with h1 h2
    exact ⟨h1, h2⟩
theorem pTok_s {fit : List Nat → Bool} {ts : List Tok} {x : List Nat} {r : List (List Nat)} (h : txs ts = x :: r) (hf : fit x = true) : pTok fit ts = .ok (x, ts.tail) ∧ txs ts.tail = r := by
  obtain ⟨e, er⟩ := tok0_strs h
  subst e
  exact ⟨pTok_t hf, er⟩
def ParsesK (blk : List Tok → PR) (okk : List Stp → Prop) : Prop := ∀ b ts r, okk b → txs ts = sgK b ++ r → ∃ rest, txs rest = r ∧ blk ts = .ok (.tuple (datB b), rest)
theorem with_ne {w : List Nat} (h : inV (.str (S w)) withV = true) : inV (.str (S w)) stepV = true ∧ isW w "loop" = false ∧ isW w "if" = false ∧ isW w "try" = false ∧ isW w "either" = false := by
  have h' : w = kw "set" ∨ w = kw "keep" ∨ w = kw "read" ∨ w = kw "look" ∨ w = kw "call" := by
    simp only [inV, withV, List.any_cons, List.any_nil, eqV, Bool.or_false, Bool.or_eq_true, beq_iff_eq] at h
    have g : ∀ {x : Str}, x = S w → w = kw x := fun {x} e => by rw [e]; rfl
    rcases h with h | h | h | h | h
    · exact .inl (g h)
    · exact .inr (.inl (g h))
    · exact .inr (.inr (.inl (g h)))
    · exact .inr (.inr (.inr (.inl (g h))))
    · exact .inr (.inr (.inr (.inr (g h))))
  rcases h' with rfl | rfl | rfl | rfl | rfl <;> decide +kernel
theorem class_ne {w : List Nat} (h : inV (.str (S w)) classV = true) : inV (.str (S w)) stepV = true ∧ isW w "loop" = false ∧ isW w "if" = false ∧ isW w "try" = false ∧ isW w "either" = false ∧ inV (.str (S w)) withV = false := by
  have h' : w = kw "of" ∨ w = kw "make" := by
    simp only [inV, classV, List.any_cons, List.any_nil, eqV, Bool.or_false, Bool.or_eq_true, beq_iff_eq] at h
    have g : ∀ {x : Str}, x = S w → w = kw x := fun {x} e => by rw [e]; rfl
    rcases h with h | h
    · exact .inl (g h)
    · exact .inr (g h)
  rcases h' with rfl | rfl <;> decide +kernel
theorem bare_ne {w : List Nat} (h : w = kw "super" ∨ w = kw "fail") : inV (.str (S w)) stepV = true ∧ isW w "loop" = false ∧ isW w "if" = false ∧ isW w "try" = false ∧ isW w "either" = false ∧ inV (.str (S w)) withV = false ∧ inV (.str (S w)) classV = false := by
  rcases h with rfl | rfl <;> decide +kernel
theorem more_ok {blk : List Tok → PR} {okk : List Stp → Prop} (B : ParsesK blk okk) : ∀ (bs : List (List Stp)) (acc : List PyData) (f : Nat) (ts : List Tok) (r : List (List Nat)), (∀ b ∈ bs, okk b) → txs ts = sgE false bs ++ r → r.head? ≠ some (kw "or") → bs.length < f →
    ∃ rest, txs rest = r ∧ pMore blk f acc ts = .ok (acc ++ datL bs, rest)
  | [], acc, f + 1, ts, r, _, h, hr, _ => by
    refine ⟨ts, h, ?_⟩
    unfold pMore
    have : isW (tok0 ts) "or" = false := by
      cases e : isW (tok0 ts) "or" with
      | false => rfl
      | true =>
        exfalso
        have e' := isW_iff.mp e
        cases ts with
        | nil => exact absurd e' (by decide +kernel)
        | cons t ts =>
          have h : txs (t :: ts) = r := h
          rw [← h] at hr
          exact hr (congrArg some e')
    rw [this, if_neg Bool.false_ne_true]
    show Except.ok (acc, ts) = Except.ok (acc ++ [], ts)
    rw [List.append_nil]
  | b :: bs, acc, f + 1, ts, r, hok, h, hr, hf => by
    have h : txs ts = kw "or" :: (sgK b ++ (sgE false bs ++ r)) := by
      rw [h]
      simp [sgE, sgK]
    obtain ⟨e0, et⟩ := tok0_strs h
    obtain ⟨r1, hr1, eb⟩ := B b _ _ (hok b (List.mem_cons_self ..)) et
    obtain ⟨r2, hr2, em⟩ := more_ok B bs (acc ++ [.tuple (datB b)]) f r1 r (fun c hc => hok c (List.mem_cons_of_mem _ hc)) hr1 hr (by simpa using hf)
    refine ⟨r2, hr2, ?_⟩
    unfold pMore
    rw [e0, isW_kw, if_pos rfl, eb]
    show pMore blk f (acc ++ [.tuple (datB b)]) r1 = _
    rw [em]
    simp [datL]
theorem step_ok {blk : List Tok → PR} {okk : List Stp → Prop} (B : ParsesK blk okk) (s : Stp) (ts : List Tok) (r : List (List Nat)) (hs : okSt okk s) (h : txs ts = sgS s ++ r) (hr : r.head? ≠ some (kw "or")) :
    ∃ rest, txs rest = r ∧ pStep blk ts = .ok (datS s, rest) ∧ inV (.str (S (tok0 ts))) stepV = true := by
  unfold pStep
  cases s with
  | word w x =>
    obtain ⟨h1, h2⟩ := hs
    obtain ⟨e0, et⟩ := tok0_strs h
    obtain ⟨n1, n2, n3, n4, n5⟩ := with_ne h1
    obtain ⟨p1, q1⟩ := pTok_s (fit := wordL) et h2
    obtain ⟨p2, q2⟩ := pTok_s (fit := is ";") q1 (isW_kw _)
    refine ⟨_, q2, ?_, by rw [e0]; exact n1⟩
    rw [e0]
    simp only [pStepW, n2, n3, n4, n5, Bool.false_eq_true, if_false, pSimple, h1, if_true, p1, pSemi, p2]
    rfl
  | cls w x =>
    obtain ⟨h1, h2⟩ := hs
    obtain ⟨e0, et⟩ := tok0_strs h
    obtain ⟨n1, n2, n3, n4, n5, n6⟩ := class_ne h1
    obtain ⟨p1, q1⟩ := pTok_s (fit := classL) et h2
    obtain ⟨p2, q2⟩ := pTok_s (fit := is ";") q1 (isW_kw _)
    refine ⟨_, q2, ?_, by rw [e0]; exact n1⟩
    rw [e0]
    simp only [pStepW, n2, n3, n4, n5, n6, Bool.false_eq_true, if_false, pSimple, h1, if_true, p1, pSemi, p2]
    rfl
  | bare w =>
    obtain ⟨e0, et⟩ := tok0_strs h
    obtain ⟨n1, n2, n3, n4, n5, n6, n7⟩ := bare_ne hs
    obtain ⟨p2, q2⟩ := pTok_s (fit := is ";") et (isW_kw _)
    refine ⟨_, q2, ?_, by rw [e0]; exact n1⟩
    rw [e0]
    simp only [pStepW, n2, n3, n4, n5, n6, n7, Bool.false_eq_true, if_false, pSimple, pSemi, p2]
    rfl
  | loop b =>
    have h : txs ts = kw "loop" :: (sgK b ++ r) := by rw [h]; simp [sgS, sgK]
    obtain ⟨e0, et⟩ := tok0_strs h
    obtain ⟨r1, hr1, eb⟩ := B b _ _ hs et
    refine ⟨r1, hr1, ?_, by rw [e0]; decide +kernel⟩
    rw [e0]
    simp only [pStepW, isW_kw, if_true, eb, S_kw]
    rfl
  | iff x a b =>
    obtain ⟨h1, h2, h3⟩ := hs
    have h : txs ts = kw "if" :: x :: (sgK a ++ kw "else" :: (sgK b ++ r)) := by rw [h]; simp [sgS, sgK]
    obtain ⟨e0, et⟩ := tok0_strs h
    obtain ⟨p1, q1⟩ := pTok_s (fit := wordL) et h1
    obtain ⟨r1, hr1, ea⟩ := B a _ _ h2 q1
    obtain ⟨p2, q2⟩ := pTok_s (fit := is "else") hr1 (isW_kw _)
    obtain ⟨r2, hr2, eb⟩ := B b _ _ h3 q2
    refine ⟨r2, hr2, ?_, by rw [e0]; decide +kernel⟩
    have m1 : isW (kw "if") "loop" = false := by decide +kernel
    rw [e0]
    simp only [pStepW, m1, isW_kw, Bool.false_eq_true, if_false, if_true, pIf, p1, ea, p2, eb]
    rfl
  | tr a b =>
    obtain ⟨h2, h3⟩ := hs
    have h : txs ts = kw "try" :: (sgK a ++ kw "catch" :: (sgK b ++ r)) := by rw [h]; simp [sgS, sgK]
    obtain ⟨e0, et⟩ := tok0_strs h
    obtain ⟨r1, hr1, ea⟩ := B a _ _ h2 et
    obtain ⟨p2, q2⟩ := pTok_s (fit := is "catch") hr1 (isW_kw _)
    obtain ⟨r2, hr2, eb⟩ := B b _ _ h3 q2
    refine ⟨r2, hr2, ?_, by rw [e0]; decide +kernel⟩
    have m1 : isW (kw "try") "loop" = false := by decide +kernel
    have m2 : isW (kw "try") "if" = false := by decide +kernel
    rw [e0]
    simp only [pStepW, m1, m2, isW_kw, Bool.false_eq_true, if_false, if_true, pTry, ea, p2, eb]
    rfl
  | ei bs =>
    obtain ⟨h2, h3⟩ := hs
    match bs, h2 with
    | a :: b :: bs, _ =>
      have h : txs ts = kw "either" :: (sgK a ++ kw "or" :: (sgK b ++ (sgE false bs ++ r))) := by rw [h]; simp [sgS, sgE, sgK]
      obtain ⟨e0, et⟩ := tok0_strs h
      obtain ⟨r1, hr1, ea⟩ := B a _ _ (h3 a (by simp)) et
      obtain ⟨p2, q2⟩ := pTok_s (fit := is "or") hr1 (isW_kw _)
      obtain ⟨r2, hr2, eb⟩ := B b _ _ (h3 b (by simp)) q2
      have len : bs.length < r2.length + 1 := by
        have e1 : (txs r2).length = r2.length := by simp [txs]
        rw [hr2, List.length_append] at e1
        have : ∀ (bs : List (List Stp)), bs.length ≤ (sgE false bs).length := by
          intro bs
          induction bs with
          | nil => exact Nat.le_refl _
          | cons c bs ih => simp [sgE]; omega
        have := this bs
        omega
      obtain ⟨r3, hr3, em⟩ := more_ok B bs [.tuple (datB a), .tuple (datB b)] (r2.length + 1) r2 r (fun c hc => h3 c (by simp [hc])) hr2 hr len
      refine ⟨r3, hr3, ?_, by rw [e0]; decide +kernel⟩
      have m1 : isW (kw "either") "loop" = false := by decide +kernel
      have m2 : isW (kw "either") "if" = false := by decide +kernel
      have m3 : isW (kw "either") "try" = false := by decide +kernel
      rw [e0]
      simp only [pStepW, m1, m2, m3, isW_kw, Bool.false_eq_true, if_false, if_true, pEither, ea, p2, eb, em]
      rfl
theorem sgS_pos (s : Stp) (okk : List Stp → Prop) (hs : okSt okk s) : 0 < (sgS s).length ∧ (sgS s).head? ≠ some (kw "or") := by
  cases s with
  | word w x => exact ⟨by simp [sgS], fun e => by
      have e : w = kw "or" := Option.some.inj e
      have h1 := hs.1
      rw [e] at h1
      exact absurd h1 (by decide +kernel)⟩
  | cls w x => exact ⟨by simp [sgS], fun e => by
      have e : w = kw "or" := Option.some.inj e
      have h1 := hs.1
      rw [e] at h1
      exact absurd h1 (by decide +kernel)⟩
  | bare w => exact ⟨by simp [sgS], fun e => by
      have e : w = kw "or" := Option.some.inj e
      rcases hs with h | h <;> (rw [e] at h; exact absurd h (by decide +kernel))⟩
  | loop b => exact ⟨by simp [sgS], fun e => absurd (Option.some.inj e) (by decide +kernel)⟩
  | iff x a b => exact ⟨by simp [sgS], fun e => absurd (Option.some.inj e) (by decide +kernel)⟩
  | tr a b => exact ⟨by simp [sgS], fun e => absurd (Option.some.inj e) (by decide +kernel)⟩
  | ei bs =>
    obtain ⟨h2, _⟩ := hs
    match bs, h2 with
    | a :: bs, _ => exact ⟨by simp [sgS, sgE], fun e => absurd (Option.some.inj e) (by decide +kernel)⟩
theorem loop_ok {blk : List Tok → PR} {okk : List Stp → Prop} (B : ParsesK blk okk) : ∀ (b : List Stp) (acc : List PyData) (f : Nat) (ts : List Tok) (r : List (List Nat)), (∀ s ∈ b, okSt okk s) → txs ts = sgB b ++ r → inV (.str (S (r.head?.getD []))) stepV = false → r.head? ≠ some (kw "or") → b.length < f →
    ∃ rest, txs rest = r ∧ pLoop (pStep blk) f acc ts = .ok (acc ++ datB b, rest)
  | [], acc, f + 1, ts, r, _, h, hr, _, _ => by
    refine ⟨ts, h, ?_⟩
    unfold pLoop
    have e : tok0 ts = r.head?.getD [] := by
      have h : txs ts = r := h
      rw [← h]
      cases ts <;> rfl
    rw [e, hr, if_neg Bool.false_ne_true]
    show Except.ok (acc, ts) = Except.ok (acc ++ [], ts)
    rw [List.append_nil]
  | s :: b, acc, f + 1, ts, r, hok, h, hr, ho, hf => by
    have h : txs ts = sgS s ++ (sgB b ++ r) := by rw [h]; simp [sgB]
    have hn : (sgB b ++ r).head? ≠ some (kw "or") := by
      cases b with
      | nil => exact ho
      | cons s2 b =>
        obtain ⟨l1, l2⟩ := sgS_pos s2 okk (hok s2 (by simp))
        show ((sgS s2 ++ sgB b) ++ r).head? ≠ _
        rw [List.append_assoc]
        cases e : sgS s2 with
        | nil => rw [e] at l1; exact absurd l1 (by decide)
        | cons x l =>
          rw [e] at l2
          exact l2
    obtain ⟨r1, hr1, es, ei⟩ := step_ok B s ts _ (hok s (by simp)) h hn
    obtain ⟨r2, hr2, el⟩ := loop_ok B b (acc ++ [datS s]) f r1 r (fun c hc => hok c (by simp [hc])) hr1 hr ho (by simpa using hf)
    refine ⟨r2, hr2, ?_⟩
    unfold pLoop
    rw [ei, if_pos rfl, es]
    show pLoop (pStep blk) f (acc ++ [datS s]) r1 = _
    rw [el]
    simp [datB]
theorem body_ok {blk : List Tok → PR} {okk : List Stp → Prop} (B : ParsesK blk okk) (b : List Stp) (ts : List Tok) (r : List (List Nat)) (hok : ∀ s ∈ b, okSt okk s) (h : txs ts = sgB b ++ r) (hr : inV (.str (S (r.head?.getD []))) stepV = false) (ho : r.head? ≠ some (kw "or")) :
    ∃ rest, txs rest = r ∧ pBodyOf (pStep blk) ts = .ok (.tuple (datB b), rest) := by
  have len : b.length < ts.length + 1 := by
    have e1 : (txs ts).length = ts.length := by simp [txs]
    rw [h, List.length_append] at e1
    have : ∀ (b : List Stp), (∀ s ∈ b, okSt okk s) → b.length ≤ (sgB b).length := by
      intro b
      induction b with
      | nil => intro _; exact Nat.le_refl _
      | cons s b ih =>
        intro h
        have h1 := (sgS_pos s okk (h s (by simp))).1
        have h2 := ih fun c hc => h c (by simp [hc])
        simp [sgB]
        omega
    have := this b hok
    omega
  obtain ⟨rest, h1, h2⟩ := loop_ok B b [] _ ts r hok h hr ho len
  refine ⟨rest, h1, ?_⟩
  unfold pBodyOf
  rw [h2]
  rfl
theorem blkN_ok : ∀ n, ParsesK (blkN n) (okK n)
  | 0 => fun _ _ _ h => h.elim
  | n + 1 => fun b ts r hok h => by
    have h : txs ts = kw "{" :: (sgB b ++ (kw "}" :: r)) := by rw [h]; simp [sgK]
    obtain ⟨p1, q1⟩ := pTok_s (fit := is "{") h (isW_kw _)
    have n1 : inV (.str (S ((kw "}" :: r).head?.getD []))) stepV = false := by
      show inV (.str (S (kw "}"))) stepV = false
      decide +kernel
    obtain ⟨r1, hr1, eb⟩ := body_ok (blkN_ok n) b ts.tail (kw "}" :: r) hok q1 n1 (fun e => absurd (Option.some.inj e) (by decide +kernel))
    obtain ⟨p2, q2⟩ := pTok_s (fit := is "}") hr1 (isW_kw _)
    refine ⟨_, q2, ?_⟩
    simp only [blkN, pBraces, p1, eb, p2]
/-- a body's signs are read as the body -/
theorem bodyN_ok {b : List Stp} {ts : List Tok} (hok : okK 7 b) (h : txs ts = sgB b) : bodyN 6 ts = .ok (.tuple (datB b), []) := by
  obtain ⟨rest, h1, h2⟩ := body_ok (blkN_ok 6) b ts [] hok (by rw [h, List.append_nil]) (by decide +kernel) (by simp)
  have : rest = [] := by simpa [txs] using h1
  subst this
  exact h2

/-! ### 5. texts and their tokens -/
inductive Spells : List Nat → List (List Nat) → Prop
  | nil : Spells [] []
  | blank {c : Nat} {l : List Nat} {ts : List (List Nat)} : blC c = true → Spells l ts → Spells (c :: l) ts
  | sign {c : Nat} {l : List Nat} {ts : List (List Nat)} : blC c = false → isL c = false → Spells l ts → Spells (c :: l) ([c] :: ts)
  | word {c : Nat} {w l : List Nat} {ts : List (List Nat)} : (∀ x ∈ c :: w, isL x = true) → (∀ x, l.head? = some x → isL x = false) → Spells l ts → Spells ((c :: w) ++ l) ((c :: w) :: ts)
theorem bl_cases {c : Nat} (h : blC c = true) : c = 32 ∨ c = 10 := by
  have e : (" \n" : Str).cps.toList = [32, 10] := by decide +kernel
  unfold blC at h
  rw [e, decide_eq_true_eq] at h
  simpa using h
theorem bl_letter {c : Nat} (h : blC c = true) : isL c = false := by
  rcases bl_cases h with rfl | rfl <;> decide +kernel
theorem letter_bl {c : Nat} (h : isL c = true) : blC c = false := by
  cases e : blC c with
  | false => rfl
  | true =>
    rw [bl_letter e] at h
    cases h
theorem tokEnd_one {a : List Nat} {i c : Nat} (hc : a[i]? = some c) (h : isL c = false) : tokEnd a i = i + 1 := by
  unfold tokEnd
  rw [hc]
  simp [h]
theorem drop_at {a l : List Nat} {i c : Nat} (h : a.drop i = c :: l) : i < a.length ∧ a[i]? = some c ∧ a.drop (i + 1) = l := by
  have h1 : i < a.length := by
    by_cases q : i < a.length
    · exact q
    · rw [List.drop_eq_nil_of_le (by omega)] at h
      cases h
  refine ⟨h1, ?_, ?_⟩
  · rw [← List.head?_drop, h]
    rfl
  · rw [← List.tail_drop, h]
    rfl
theorem takeWhile_word {w l : List Nat} (hw : ∀ x ∈ w, isL x = true) (hl : ∀ x, l.head? = some x → isL x = false) : (w ++ l).takeWhile isL = w := by
  induction w with
  | nil =>
    cases l with
    | nil => rfl
    | cons x l => simp [hl x rfl]
  | cons x w ih => simp [hw x (by simp), ih fun y hy => hw y (by simp [hy])]
theorem tokF_spells {l : List Nat} {ts : List (List Nat)} (h : Spells l ts) : ∀ (a : List Nat) (i f : Nat), a.drop i = l → a.length ≤ i + f → (tokF a f i).map (·.2) = ts := by
  induction h with
  | nil =>
    intro a i f hd hf
    have : a.length ≤ i := List.drop_eq_nil_iff.mp hd
    cases f with
    | zero => rfl
    | succ f =>
      unfold tokF
      rw [if_neg (by omega)]
      rfl
  | @blank c l ts hb h ih =>
    intro a i f hd hf
    obtain ⟨h1, h2, h3⟩ := drop_at hd
    obtain ⟨f, rfl⟩ : ∃ g, f = g + 1 := ⟨f - 1, by omega⟩
    unfold tokF
    rw [if_pos h1, h2]
    simp only [Option.elim_some, hb, if_true]
    rw [tokEnd_one h2 (bl_letter hb)]
    exact ih a (i + 1) f h3 (by omega)
  | @sign c l ts hb hl h ih =>
    intro a i f hd hf
    obtain ⟨h1, h2, h3⟩ := drop_at hd
    obtain ⟨f, rfl⟩ : ∃ g, f = g + 1 := ⟨f - 1, by omega⟩
    unfold tokF
    rw [if_pos h1, h2]
    simp only [Option.elim_some, hb, Bool.false_eq_true, if_false]
    rw [tokEnd_one h2 hl, hd, show i + 1 - i = 1 by omega]
    show [c] :: (tokF a f (i + 1)).map (·.2) = _
    rw [ih a (i + 1) f h3 (by omega)]
  | @word c w l ts hw hl h ih =>
    intro a i f hd hf
    obtain ⟨h1, h2, h3⟩ := drop_at hd
    obtain ⟨f, rfl⟩ : ∃ g, f = g + 1 := ⟨f - 1, by omega⟩
    have h3 : a.drop (i + 1) = w ++ l := h3
    have hc := hw c (by simp)
    have e : tokEnd a i = i + (c :: w).length := by
      unfold tokEnd
      rw [h2]
      simp only [Option.elim_some, hc, if_true]
      rw [h3, takeWhile_word (w := w) (fun x hx => hw x (List.mem_cons_of_mem _ hx)) hl]
      simp
      omega
    unfold tokF
    rw [if_pos h1, h2]
    simp only [Option.elim_some, letter_bl hc, Bool.false_eq_true, if_false]
    rw [e, hd, show i + (c :: w).length - i = (c :: w).length by omega]
    have e2 : ((c :: w) ++ l).take (c :: w).length = c :: w := List.take_left
    have e3 : (c :: (w ++ l)).take (c :: w).length = c :: w := e2
    show ((c :: (w ++ l)).take (c :: w).length) :: (tokF a f (i + (c :: w).length)).map (·.2) = _
    rw [e3, ih a _ f ?_ ?_]
    · rw [← List.drop_drop, hd]
      exact List.drop_left
    · simp
      omega
theorem toks_spells {a : List Nat} {ts : List (List Nat)} (h : Spells a ts) : txs (toks a) = ts := tokF_spells h a 0 a.length (by simp) (by omega)
/-- no letter begins it -/
def NoL (l : List Nat) : Prop := ∀ x, l.head? = some x → isL x = false
theorem Spells.blanks {l : List Nat} {ts : List (List Nat)} (h : Spells l ts) : ∀ bs : List Nat, (∀ c ∈ bs, blC c = true) → Spells (bs ++ l) ts
  | [], _ => h
  | c :: bs, hb => .blank (hb c (by simp)) (Spells.blanks h bs fun x hx => hb x (by simp [hx]))
theorem Spells.wd {w l : List Nat} {ts : List (List Nat)} (h : Spells l ts) (hn : w ≠ []) (hw : ∀ x ∈ w, isL x = true) (hl : NoL l) : Spells (w ++ l) (w :: ts) := by
  cases w with
  | nil => exact absurd rfl hn
  | cons c w => exact .word hw hl h
theorem noL_cons {c : Nat} {l : List Nat} (h : isL c = false) : NoL (c :: l) := fun x e => by cases e; exact h
/-- a token: letters, or one sign -/
def IsTok (t : List Nat) : Prop := (t ≠ [] ∧ ∀ x ∈ t, isL x = true) ∨ ∃ c, t = [c] ∧ blC c = false ∧ isL c = false
theorem Spells.tok {t l : List Nat} {ts : List (List Nat)} (h : Spells l ts) (ht : IsTok t) (hl : (∃ c, t = [c] ∧ isL c = false) ∨ NoL l) : Spells (t ++ l) (t :: ts) := by
  rcases ht with ⟨hn, hw⟩ | ⟨c, rfl, h1, h2⟩
  · rcases hl with ⟨c, rfl, h2⟩ | hl
    · rw [hw c (by simp)] at h2
      cases h2
    · exact h.wd hn hw hl
  · exact .sign h1 h2 h
theorem word_tok {a : List Nat} (h : wordL a = true) : a ≠ [] ∧ ∀ x ∈ a, isL x = true := by
  simp only [wordL, Bool.and_eq_true, decide_eq_true_eq] at h
  refine ⟨fun e => by rw [e] at h; simp at h, fun x hx => ?_⟩
  have := List.all_eq_true.mp h.2.2.1 x hx
  simp [isL, this]
theorem class_tok {a : List Nat} (h : classL a = true) : a ≠ [] ∧ ∀ x ∈ a, isL x = true := by
  simp only [classL, Bool.and_eq_true, decide_eq_true_eq] at h
  obtain ⟨h1, _, h3, h4⟩ := h
  cases a with
  | nil => simp at h1
  | cons c l =>
    refine ⟨by simp, fun x hx => ?_⟩
    rcases List.mem_cons.mp hx with rfl | hx
    · have h3 : capC x = true := h3
      simp [isL, h3]
    · have := List.all_eq_true.mp h4 x (by simpa using hx)
      simp [isL, this]
/-! canonical texts -/
def blkT (ls : List (List Nat)) : List Nat := if ls.isEmpty = true then kw "{ }" else kw "{ " ++ (TL.joinL [32] ls ++ kw " }")
mutual
def wrS : Stp → List Nat
  | .word w x => w ++ 32 :: (x ++ [59])
  | .cls w x => w ++ 32 :: (x ++ [59])
  | .bare w => w ++ [59]
  | .loop b => kw "loop " ++ blkT (wrL b)
  | .iff x a b => kw "if " ++ x ++ [32] ++ blkT (wrL a) ++ kw " else " ++ blkT (wrL b)
  | .tr a b => kw "try " ++ blkT (wrL a) ++ kw " catch " ++ blkT (wrL b)
  | .ei bs => kw "either " ++ TL.joinL (kw " or ") (wrK bs)
def wrL : List Stp → List (List Nat)
  | [] => []
  | s :: b => wrS s :: wrL b
def wrK : List (List Stp) → List (List Nat)
  | [] => []
  | b :: bs => blkT (wrL b) :: wrK bs
end
def wrB (b : List Stp) : List Nat := TL.joinL [32] (wrL b)
theorem join_cons (s : List Nat) (p : List Nat) : ∀ r : List (List Nat), TL.joinL s (p :: r) = p ++ (if r.isEmpty then [] else s ++ TL.joinL s r)
  | [] => by simp [TL.joinL]
  | q :: r => by simp [TL.joinL]
/-- a piece spells its signs, whatever follows -/
def SpellsAny (a : List Nat) (ts : List (List Nat)) : Prop := ∀ l r, Spells l r → Spells (a ++ l) (ts ++ r)
theorem SpellsAny.app {a b : List Nat} {ts us : List (List Nat)} (h : SpellsAny a ts) (k : SpellsAny b us) : SpellsAny (a ++ b) (ts ++ us) := fun l r q => by
  rw [List.append_assoc, List.append_assoc]
  exact h _ _ (k _ _ q)
theorem SpellsAny.spells {a : List Nat} {ts : List (List Nat)} (h : SpellsAny a ts) : Spells a ts := by
  have := h [] [] .nil
  rwa [List.append_nil, List.append_nil] at this
theorem any_blank : SpellsAny [32] [] := fun l r q => .blank (by decide +kernel) q
theorem any_nil : SpellsAny [] [] := fun _ _ q => q
/-- a word and a blank -/
theorem any_word {w : List Nat} (h : w ≠ [] ∧ ∀ x ∈ w, isL x = true) : SpellsAny (w ++ [32]) [w] := fun l r q => by
  rw [List.append_assoc]
  exact Spells.wd (.blank (by decide +kernel) q) h.1 h.2 (noL_cons (by decide +kernel))
theorem any_sign {c : Nat} (h1 : blC c = false) (h2 : isL c = false) : SpellsAny [c] [[c]] := fun l r q => .sign h1 h2 q
/-- a word and a sign -/
theorem any_ws {w : List Nat} {c : Nat} (h : w ≠ [] ∧ ∀ x ∈ w, isL x = true) (h1 : blC c = false) (h2 : isL c = false) : SpellsAny (w ++ [c]) [w, [c]] := fun l r q => by
  rw [List.append_assoc]
  exact Spells.wd (.sign h1 h2 q) h.1 h.2 (noL_cons h2)
theorem any_cast {a b : List Nat} {ts us : List (List Nat)} (h : SpellsAny a ts) (e : a = b) (f : ts = us) : SpellsAny b us := by
  subst e f
  exact h
def wOk (x : Str) : Bool := !(kw x).isEmpty && (kw x).all isL
theorem kw_ok {x : Str} (h : wOk x = true) : kw x ≠ [] ∧ ∀ c ∈ kw x, isL c = true := by
  simp only [wOk, Bool.and_eq_true, Bool.not_eq_true'] at h
  exact ⟨fun e => by rw [e] at h; simp at h, List.all_eq_true.mp h.2⟩
theorem any_semi {w : List Nat} (h : w ≠ [] ∧ ∀ x ∈ w, isL x = true) : SpellsAny (w ++ [59]) [w, kw ";"] :=
  any_cast (any_ws (c := 59) h (by decide +kernel) (by decide +kernel)) rfl (by rw [show kw ";" = [59] by decide +kernel])
theorem with_tok {w : List Nat} (h : inV (.str (S w)) stepV = true) : w ≠ [] ∧ ∀ x ∈ w, isL x = true := by
  have h' : w ∈ [kw "set", kw "keep", kw "read", kw "look", kw "call", kw "of", kw "make", kw "super", kw "fail", kw "loop", kw "if", kw "try", kw "either"] := by
    simp only [inV, stepV, List.any_cons, List.any_nil, eqV, Bool.or_false, Bool.or_eq_true, beq_iff_eq] at h
    have g : ∀ {x : Str}, x = S w → w = kw x := fun {x} e => by rw [e]; rfl
    simp only [List.mem_cons, List.not_mem_nil, or_false]
    rcases h with h | h | h | h | h | h | h | h | h | h | h | h | h <;> simp only [g h] <;> simp
  have k : ∀ v ∈ [kw "set", kw "keep", kw "read", kw "look", kw "call", kw "of", kw "make", kw "super", kw "fail", kw "loop", kw "if", kw "try", kw "either"], (!v.isEmpty && v.all isL) = true := by
    rw [← List.all_eq_true]
    decide +kernel
  have := k w h'
  simp only [Bool.and_eq_true, Bool.not_eq_true'] at this
  exact ⟨fun e => by rw [e] at this; simp at this, List.all_eq_true.mp this.2⟩
def SpK (okk : List Stp → Prop) : Prop := ∀ b, okk b → SpellsAny (blkT (wrL b)) (sgK b)
theorem spE {okk : List Stp → Prop} (B : SpK okk) : ∀ (bs : List (List Stp)) (f : Bool), (∀ b ∈ bs, okk b) → bs ≠ [] → SpellsAny ((if f then kw "either " else kw "or ") ++ TL.joinL (kw " or ") (wrK bs)) (sgE f bs)
  | [], _, _, h => absurd rfl h
  | b :: bs, f, hok, _ => by
    have h0 : SpellsAny (if f then kw "either " else kw "or ") [if f then kw "either" else kw "or"] := by
      cases f
      · exact any_cast (any_word (kw_ok (x := "or") (by decide +kernel))) (by decide +kernel) rfl
      · exact any_cast (any_word (kw_ok (x := "either") (by decide +kernel))) (by decide +kernel) rfl
    have h1 := h0.app (B b (hok b (by simp)))
    show SpellsAny (_ ++ TL.joinL (kw " or ") (blkT (wrL b) :: wrK bs)) _
    rw [join_cons]
    by_cases e : bs = []
    · subst e
      refine any_cast h1 (by simp [wrK]) (by simp [sgE, sgK])
    · have h2 := spE B bs false (fun c hc => hok c (by simp [hc])) e
      have e3 : kw " or " = [32] ++ kw "or " := by decide +kernel
      have ne : (wrK bs).isEmpty = false := by
        cases bs with
        | nil => exact absurd rfl e
        | cons c bs => rfl
      refine any_cast (h1.app (any_blank.app h2)) ?_ (by simp [sgE, sgK])
      rw [ne]
      simp [e3]
theorem spS {okk : List Stp → Prop} (B : SpK okk) (s : Stp) (hs : okSt okk s) : SpellsAny (wrS s) (sgS s) := by
  cases s with
  | word w x => exact any_cast ((any_word (with_tok (with_ne hs.1).1)).app (any_semi (word_tok hs.2))) (by simp [wrS]) rfl
  | cls w x => exact any_cast ((any_word (with_tok (class_ne hs.1).1)).app (any_semi (class_tok hs.2))) (by simp [wrS]) rfl
  | bare w => exact any_semi (with_tok (bare_ne hs).1)
  | loop b => exact any_cast ((any_word (kw_ok (x := "loop") (by decide +kernel))).app (B b hs)) (by rw [show kw "loop" ++ [32] = kw "loop " by decide +kernel]; rfl) rfl
  | iff x a b =>
    obtain ⟨h1, h2, h3⟩ := hs
    refine any_cast ((any_word (kw_ok (x := "if") (by decide +kernel))).app ((any_word (word_tok h1)).app ((B a h2).app (any_blank.app ((any_word (kw_ok (x := "else") (by decide +kernel))).app (B b h3)))))) ?_ (by simp [sgS, sgK])
    rw [show kw "if" ++ [32] = kw "if " by decide +kernel]
    have : kw " else " = [32] ++ (kw "else" ++ [32]) := by decide +kernel
    simp [wrS, this]
  | tr a b =>
    obtain ⟨h2, h3⟩ := hs
    refine any_cast ((any_word (kw_ok (x := "try") (by decide +kernel))).app ((B a h2).app (any_blank.app ((any_word (kw_ok (x := "catch") (by decide +kernel))).app (B b h3))))) ?_ (by simp [sgS, sgK])
    rw [show kw "try" ++ [32] = kw "try " by decide +kernel]
    have : kw " catch " = [32] ++ (kw "catch" ++ [32]) := by decide +kernel
    simp [wrS, this]
  | ei bs =>
    obtain ⟨h2, h3⟩ := hs
    exact any_cast (spE B bs true h3 (fun e => by rw [e] at h2; simp at h2)) rfl rfl
theorem spB {okk : List Stp → Prop} (B : SpK okk) : ∀ b : List Stp, (∀ s ∈ b, okSt okk s) → SpellsAny (wrB b) (sgB b)
  | [], _ => any_nil
  | s :: b, hok => by
    have h1 := spS B s (hok s (by simp))
    have h2 := spB B b fun c hc => hok c (by simp [hc])
    unfold wrB at h2 ⊢
    show SpellsAny (TL.joinL [32] (wrS s :: wrL b)) _
    rw [join_cons]
    by_cases e : b = []
    · subst e
      exact any_cast h1 (by simp [wrL]) (by simp [sgB])
    · have ne : (wrL b).isEmpty = false := by
        cases b with
        | nil => exact absurd rfl e
        | cons c b => rfl
      exact any_cast (h1.app (any_blank.app h2)) (by rw [ne]; simp) (by simp [sgB])
theorem spN : ∀ n, SpK (okK n)
  | 0 => fun _ h => h.elim
  | n + 1 => fun b hok => by
    have h := spB (spN n) b hok
    have o : SpellsAny [123] [kw "{"] := any_cast (any_sign (c := 123) (by decide +kernel) (by decide +kernel)) rfl (by decide +kernel)
    have c : SpellsAny [125] [kw "}"] := any_cast (any_sign (c := 125) (by decide +kernel) (by decide +kernel)) rfl (by decide +kernel)
    unfold blkT
    by_cases e : b = []
    · subst e
      exact any_cast (o.app (any_blank.app c)) (by decide +kernel) (by simp [sgK, sgB])
    · have ne : (wrL b).isEmpty = false := by
        cases b with
        | nil => exact absurd rfl e
        | cons c b => rfl
      rw [ne, if_neg Bool.false_ne_true]
      have e1 : kw "{ " = [123] ++ [32] := by decide +kernel
      have e2 : kw " }" = [32] ++ [125] := by decide +kernel
      exact any_cast (o.app (any_blank.app (h.app (any_blank.app c)))) (by rw [e1, e2]; simp [wrB]) (by simp [sgK])
theorem sp_body {n : Nat} {b : List Stp} (h : okK (n + 1) b) : SpellsAny (wrB b) (sgB b) := spB (spN n) b h

/-! ### 6. bodies are written -/
theorem iteY {c A B : Prop} [Decidable c] (hc : c) (h : A) : if (decide c) = true then A else B := by
  rw [decide_eq_true hc]
  exact iteT h
theorem iteN {c A B : Prop} [Decidable c] (hc : ¬ c) (h : B) : if (decide c) = true then A else B := by
  rw [decide_eq_false hc]
  exact iteF h
theorem dtAll_get {K : PySem.W.Frag} {H : Hp} : ∀ {vs : List V} {ds : List PyData} {i : Nat} {v : V}, DtAll K H vs ds → vs[i]? = some v → ∃ d, ds[i]? = some d ∧ Dt K H v d
  | _, _, 0, _, .cons a _, h => by cases h; exact ⟨_, rfl, a⟩
  | _, _, i + 1, _, .cons _ b, h => dtAll_get (i := i) b h
theorem datB_get : ∀ {b : List Stp} {i : Nat} {d : PyData}, (datB b)[i]? = some d → ∃ s, b[i]? = some s ∧ d = datS s
  | s :: b, 0, d, h => by
    simp only [datB] at h
    cases h
    exact ⟨s, rfl, rfl⟩
  | s :: b, i + 1, d, h => by
    simp only [datB] at h
    exact datB_get (b := b) (i := i) h
  | [], i, d, h => by simp [datB] at h
theorem datL_get : ∀ {b : List (List Stp)} {i : Nat} {d : PyData}, (datL b)[i]? = some d → ∃ s, b[i]? = some s ∧ d = .tuple (datB s)
  | s :: b, 0, d, h => by
    simp only [datL] at h
    cases h
    exact ⟨s, rfl, rfl⟩
  | s :: b, i + 1, d, h => by
    simp only [datL] at h
    exact datL_get (b := b) (i := i) h
  | [], i, d, h => by simp [datL] at h
theorem wrL_get : ∀ {b : List Stp} {i : Nat} {s : Stp}, b[i]? = some s → (wrL b)[i]? = some (wrS s)
  | s :: b, 0, _, h => by cases h; rfl
  | s :: b, i + 1, _, h => wrL_get (b := b) (i := i) h
theorem wrK_get : ∀ {b : List (List Stp)} {i : Nat} {s : List Stp}, b[i]? = some s → (wrK b)[i]? = some (blkT (wrL s))
  | s :: b, 0, _, h => by cases h; rfl
  | s :: b, i + 1, _, h => wrK_get (b := b) (i := i) h
theorem datB_len : ∀ b : List Stp, (datB b).length = b.length
  | [] => rfl
  | _ :: b => congrArg Nat.succ (datB_len b)
theorem datL_len : ∀ b : List (List Stp), (datL b).length = b.length
  | [] => rfl
  | _ :: b => congrArg Nat.succ (datL_len b)
theorem wrL_len : ∀ b : List Stp, (wrL b).length = b.length
  | [] => rfl
  | _ :: b => congrArg Nat.succ (wrL_len b)
theorem wrK_len : ∀ b : List (List Stp), (wrK b).length = b.length
  | [] => rfl
  | _ :: b => congrArg Nat.succ (wrK_len b)
theorem join_mem {s : List Nat} {p : List Nat} : ∀ {r : List (List Nat)}, p ∈ r → p.length ≤ (TL.joinL s r).length
  | q :: r, h => by
    rw [join_cons, List.length_append]
    rcases List.mem_cons.mp h with rfl | h
    · omega
    · have := join_mem (s := s) h
      cases r with
      | nil => cases h
      | cons a r =>
        show p.length ≤ q.length + (s ++ TL.joinL s (a :: r)).length
        rw [List.length_append]
        omega
theorem join_tot {s : List Nat} : ∀ r : List (List Nat), (r.map (·.length)).sum + r.length * s.length ≤ (TL.joinL s r).length + s.length
  | [] => by simp [TL.joinL]
  | q :: r => by
    have ih := join_tot (s := s) r
    rw [join_cons, List.length_append]
    cases r with
    | nil => simp
    | cons a r =>
      simp only [List.map_cons, List.sum_cons, List.length_cons, List.isEmpty_cons, Bool.false_eq_true, if_false, List.length_append] at ih ⊢
      have e : (r.length + 1 + 1) * s.length = (r.length + 1) * s.length + s.length := Nat.succ_mul _ _
      omega
theorem blkT_len (ls : List (List Nat)) : (TL.joinL [32] ls).length ≤ (blkT ls).length := by
  unfold blkT
  cases ls with
  | nil => exact Nat.zero_le _
  | cons a l =>
    rw [if_neg (by simp)]
    simp only [List.length_append]
    omega
def txV (l : List (List Nat)) : List V := (l.map S).map V.str
theorem ne_str {x y : Str} (h : ¬ x = y) : ¬ V.str x = V.str y := fun e => h (V.str.inj e)
theorem notW {a : List Nat} {x : Str} (h : isW a x = false) : ¬ V.str (S a) = V.str x := fun e => by
  rw [isW, decide_eq_true e] at h
  cases h
theorem str_app3 (a b c : Str) : a ++ (b ++ c) = a ++ b ++ c := by
  rw [← S_tl a, ← S_tl b, ← S_tl c, S_cat, S_cat, S_cat, S_cat, List.append_assoc]
/-- the longest piece of a step's text -/
theorem okl {a b : Str} {n : Nat} (h : a.length + b.length ≤ n) (hn : n ≤ 100004) : a.length + b.length ≤ sizeLine := Nat.le_trans (Nat.le_trans h hn) (by decide)

/-! ### 7. the law's words -/
def oneL (L : List Nat) : List (List Nat) := L.map fun c => [c]
theorem txV_len (l : List (List Nat)) : (txV l).length = l.length := by simp [txV]
theorem map_erase {α β : Type} (f : α → β) : ∀ (l : List α) (k : Nat), (l.map f).eraseIdx k = (l.eraseIdx k).map f
  | [], _ => rfl
  | _ :: _, 0 => rfl
  | a :: l, k + 1 => by
    show f a :: (l.map f).eraseIdx k = f a :: (l.eraseIdx k).map f
    rw [map_erase f l k]
theorem txV_erase (l : List (List Nat)) (k : Nat) : (txV l).eraseIdx k = txV (l.eraseIdx k) := by
  simp [txV, map_erase]
theorem oneL_erase (l : List Nat) (k : Nat) : (oneL l).eraseIdx k = oneL (l.eraseIdx k) := map_erase _ _ _
theorem txV_snoc (l : List (List Nat)) (a : List Nat) : txV l ++ [V.str (S a)] = txV (l ++ [a]) := by simp [txV]
theorem seqIx {d : Int} {n : Nat} (h0 : 0 ≤ d) (h1 : d < (n : Int)) : seqIndex? d n = some d.toNat := by
  unfold seqIndex?
  simp only [show ¬ d < 0 by omega, if_false]
  simp [h0, h1]
def stemC (c : Nat) : Bool := c == 97 || c == 113 || c == 122 || c == 109
def stemT (c : Nat) : Bool := c == 97 || c == 101 || c == 115 || c == 116 || c == 120
def okStem (p : Nat → Bool) (n : Nat) : V → Bool
  | .str x => decide (x.length ≤ n) && x.cps.toList.all p
  | _ => false
theorem okStem_spec {p : Nat → Bool} {n : Nat} {v : V} (h : okStem p n v = true) : ∃ a, v = .str (S a) ∧ a.length ≤ n ∧ a.all p = true := by
  cases v with
  | str x =>
    simp only [okStem, Bool.and_eq_true, decide_eq_true_eq] at h
    exact ⟨x.cps.toList, by rw [S_tl], by rw [Array.length_toList]; exact h.1, h.2⟩
  | _ => cases h
def outN (a : List Nat) : Nat := (a.filter fun c => !stemC c).length
theorem outN_app (a b : List Nat) : outN (a ++ b) = outN a + outN b := by simp [outN, List.filter_append]
theorem outN_stem {a : List Nat} (h : a.all stemC = true) : outN a = 0 := by
  unfold outN
  rw [List.filter_eq_nil_iff.mpr]
  · rfl
  · intro c hc
    simp [List.all_eq_true.mp h c hc]
theorem outN_one (c : Nat) : outN [c] ≤ 1 := by
  unfold outN
  exact List.length_filter_le _ _
theorem stem_small {a : List Nat} (h : a.all stemC = true) : smallL a = true := by
  unfold smallL
  rw [List.all_eq_true] at h ⊢
  intro c hc
  have := h c hc
  simp only [stemC, Bool.or_eq_true, beq_iff_eq] at this
  rcases this with ((rfl | rfl) | rfl) | rfl <;> decide +kernel
theorem stemT_small {a : List Nat} (h : a.all stemT = true) : smallL a = true := by
  unfold smallL
  rw [List.all_eq_true] at h ⊢
  intro c hc
  have := h c hc
  simp only [stemT, Bool.or_eq_true, beq_iff_eq] at this
  rcases this with (((rfl | rfl) | rfl) | rfl) | rfl <;> decide +kernel
theorem res_out : resV.all (fun v => match v with | .str x => decide (2 ≤ outN x.cps.toList) | _ => true) = true := by decide +kernel
theorem notRes {a : List Nat} (h : outN a ≤ 1) : inV (.str (S a)) resV = false := by
  cases e : inV (.str (S a)) resV with
  | false => rfl
  | true =>
    exfalso
    obtain ⟨v, hv, hq⟩ := List.any_eq_true.mp (show resV.any (fun v => eqV v (.str (S a))) = true from by
      unfold inV at e
      exact e)
    cases v with
    | str x =>
      simp only [eqV, beq_iff_eq] at hq
      have := List.all_eq_true.mp res_out _ hv
      simp only [decide_eq_true_eq] at this
      have e2 : x.cps.toList = a := by rw [hq]
      rw [e2] at this
      omega
    | _ => cases hq
theorem word_of {a : List Nat} (h1 : 1 ≤ a.length) (h2 : a.length ≤ 8) (h3 : smallL a = true) (h4 : outN a ≤ 1) : wordL a = true := by
  simp only [wordL, Bool.and_eq_true, decide_eq_true_eq, h3, notRes h4, Bool.not_false, and_true]
  omega
theorem smallL_app {a b : List Nat} (ha : smallL a = true) (hb : smallL b = true) : smallL (a ++ b) = true := by
  unfold smallL at *
  rw [List.all_append, ha, hb]
  rfl
section
variable {P : Program} {w : World} {K : PySem.W.Frag} {mg : Str → Option Value} {base : Heap} {Z : Addrs}
def okWs (g : List Nat → Bool) (ws : List (List Nat)) : Prop := ∀ x ∈ ws, g x = true
theorem lt9000 {m : Int} (h0 : 0 < m) (h : m ≤ 100000) : m.natAbs < 2 ^ 9000 := Nat.lt_of_le_of_lt (by omega : m.natAbs ≤ 100000) (by decide +kernel)
theorem lt9000' {m : Int} (h0 : 0 ≤ m) (h : m ≤ 100000) : m.natAbs < 2 ^ 9000 := Nat.lt_of_le_of_lt (by omega : m.natAbs ≤ 100000) (by decide +kernel)
theorem Upto.upd {b : Addr} {H H1 : Hp} {p : Addr} {o : HO} (u : Upto b H H1) (h : H p = none) : Upto b H (upd H1 p o) := fun c q hc e => by
  rw [upd_ne (ne_of_none e h)]
  exact u c q hc e
theorem BagAt.upd {H : Hp} {b p : Addr} {o : HO} (h : BagAt H b) (n : p ≠ b) : BagAt (upd H p o) b := by
  obtain ⟨x, y, hx, e⟩ := h
  exact ⟨x, y, hx, by rw [upd_ne (Ne.symm n)]; exact e⟩
theorem bagNe {H : Hp} {b p : Addr} (B : BagAt H b) (hp : H p = none) : p ≠ b := fun e => by
  subst e
  obtain ⟨_, _, _, e⟩ := B
  rw [e] at hp
  cases hp
def spWords (g : List Nat → Bool) : Sp := fun vs H Q _ => ∃ (b : Addr) (m : Nat), vs = [.ref b, .int (m : Nat)] ∧ BagAt H b ∧ m ≤ 12 ∧
  ∀ (ws : List (List Nat)) (p : Addr) H', okWs g ws → ws.length = m → p ≠ b → H p = none → H' p = some (.lst (txV ws)) → Upto b H H' → BagAt H' b → Q (.ref p) H'
theorem c__law_words (T : Txt K mg Z) : Cal P w K mg base 3 "_law_words" (spWords wordL) [] := by
  have c__law_draw : Cal P w K mg base 1 "_law_draw" spDraw [] := c__law_draw T
  have c__law_one : Cal P w K mg base 2 "_law_one" (spOne K) [] := c__law_one T
  refine cal_of T.d__law_words sc__law_words (fun vs H Q E h => ?_) (fun f cdv A outer s H vs Q E hr h => ?_)
  · obtain ⟨b, m, rfl, _⟩ := h
    rfl
  · obtain ⟨b, m, rfl, B, hm, k⟩ := h
    refine ⟨_, (pss_cons (ps_par3 (i := 2) (j := 3) (l := 4) (by rfl) sc__law_words.nd rfl rfl rfl (by decide) (by decide) (by decide) rfl rfl rfl (pa_cons (pe_callTy (call_listS rfl) (by rfl) T.b_list (by decide +kernel) (pa_cons pe_str pa_nil)) (pa_cons pe_str (pa_cons (pe_lst pa_nil) pa_nil))) (by rfl))
      (pss_cons (ps_for PassesOwn.never rfl (pi_range1 rfl T.b_range (pa_cons (pe_c c__law_draw hr (by omega) rfl (pa_cons (pv 0) (pa_cons pe_int pa_nil))) pa_nil)) (pg_name (i := 5) sc__law_words.nd rfl (by first | exact Or.inl rfl | exact Or.inr rfl)) (pss_one (ps_set (i := 3) sc__law_words.nd rfl (by first | exact Or.inl rfl | exact Or.inr rfl) (pe_op op_add_str (pv 3) (pe_c c__law_one hr (by omega) rfl (pa_cons (pv 0) (pa_cons (pe_lst (pa_cons pe_str (pa_cons pe_str (pa_cons pe_str (pa_cons pe_str pa_nil))))) pa_nil)))))))
      (pss_cons (ps_set (i := 6) sc__law_words.nd rfl (by first | exact Or.inl rfl | exact Or.inr rfl) (pe_cmpR op_eq (pe_c c__law_draw hr (by omega) rfl (pa_cons (pv 0) (pa_cons pe_int pa_nil))) pe_int (nomark _)))
      (pss_cons (ps_for PassesOwn.never rfl (pi_range1 rfl T.b_range (pa_cons (pv 1) pa_nil)) (pg_name (i := 5) sc__law_words.nd rfl (by first | exact Or.inl rfl | exact Or.inr rfl)) (pss_cons (ps_set (i := 7) sc__law_words.nd rfl (by first | exact Or.inl rfl | exact Or.inr rfl) (pe_bm PySem.F.plainAttrs_list PySem.F.slot_list_pop PySem.F.type_list_pop mt_popAt (pv 2) (pa_cons (pe_c c__law_draw hr (by omega) rfl (pa_cons (pv 0) (pa_cons (pe_callB call_len_seq (by rfl) T.b_len (by decide +kernel) (pa_cons (pv 2) pa_nil)) pa_nil))) pa_nil)))
      (pss_one (ps_expr (pe_bm PySem.F.plainAttrs_list PySem.F.slot_list_append PySem.F.type_list_append mt_append (pv 4) (pa_cons (pe_ifExp (pt_val (pv 6)) (pe_op op_add_str (pv 7) (pv 3)) (pe_op op_add_str (pv 3) (pv 7))) pa_nil))))))
      (pss_one (ps_ret (pv 4))))))), ?_⟩
    refine ⟨_, rfl, by decide, fun l nl => ⟨by decide, fun g ng => ⟨_, _, _, rfl, ?_⟩⟩⟩
    have hlg : l ≠ g := ne_of_none upd_same ng
    have ng0 : H g = none := (Same.new nl).free ng
    have e0 : (("abcdefghijklmnopqrstuvwxyz" : Str).cps.toList.map fun c => V.str ⟨#[c]⟩) = txV (oneL ("abcdefghijklmnopqrstuvwxyz" : Str).cps.toList) := by
      simp only [txV, oneL, List.map_map]
      rfl
    rw [e0]
    have B2 : BagAt (upd (upd H l (.lst (txV (oneL ("abcdefghijklmnopqrstuvwxyz" : Str).cps.toList)))) g (.lst [])) b := (B.upd (bagNe B nl)).upd (bagNe B ng0)
    refine ⟨_, rfl, b, 8, rfl, B2, by decide, lt9000 (by decide) (by decide), fun d H1 d0 d1 u1 B1 => ⟨_, rfl, by omega, by omega, ?_⟩⟩
    have hl0 : H1 l = some (.lst (txV (oneL ("abcdefghijklmnopqrstuvwxyz" : Str).cps.toList))) := u1 _ _ (bagNe B nl) (by rw [upd_ne hlg]; exact upd_same)
    have hg0 : H1 g = some (.lst []) := u1 _ _ (bagNe B ng0) upd_same
    have U1 : Upto b H H1 := ((Upto.new nl).trans (Upto.new ng)).trans u1
    refine for_it walk_range (fun i σ H2 => ∃ (a : List Nat) (v5 v6 v7 : Option V), σ = [some (.ref b), some (.int m), some (.ref l), some (.str (S a)), some (.ref g), v5, v6, v7] ∧ a.length ≤ i ∧ a.all stemC = true ∧ Upto b H H2 ∧ BagAt H2 b ∧
      H2 l = some (.lst (txV (oneL ("abcdefghijklmnopqrstuvwxyz" : Str).cps.toList))) ∧ H2 g = some (.lst [])) ⟨[], none, none, none, rfl, Nat.le_refl _, rfl, U1, B1, hl0, hg0⟩ (fun _ _ _ _ _ => trivial) ?_ ?_
    · rintro i x σ H2 H3 hi ⟨a, v5, v6, v7, rfl, ha, hA, u2, B2, hl2, hg2⟩ ⟨rfl, rfl⟩
      refine ⟨_, rfl, _, rfl, by decide, fun q nq => ⟨b, q, _, rfl, B2.upd (bagNe B2 nq), bagNe B2 nq, upd_same, by decide, by decide, fun v H4 hv u4 B4 => ?_⟩⟩
      obtain ⟨c, rfl, hc, hC⟩ := okStem_spec (p := stemC) (n := 1) (List.all_eq_true.mp (show List.all _ (okStem stemC 1) = true by decide +kernel) v hv)
      refine ⟨_, _, rfl, rfl, by rw [S_len, S_len]; exact sz (by have := ha; omega), ?_⟩
      rw [S_cat]
      exact ⟨a ++ c, _, _, _, rfl, by simp; omega, by rw [List.all_append, hA, hC]; rfl, u2.trans ((Upto.new nq).trans u4), B4, u4 _ _ (bagNe B nl) ((Same.new nq) _ _ hl2), u4 _ _ (bagNe B ng0) ((Same.new nq) _ _ hg2)⟩
    · rintro σ H2 ⟨a, v5, v6, v7, rfl, ha, hA, u2, B2, hl2, hg2⟩
      have ha : a.length ≤ 7 := by omega
      refine ⟨_, rfl, b, 2, rfl, B2, by decide, lt9000 (by decide) (by decide), fun e H3 e0 e1 u3 B3 => ⟨rfl, _, rfl, _, rfl, by omega, by omega, ?_⟩⟩
      have S3 := u2.trans u3
      refine for_it walk_range (fun i σ H4 => ∃ (L : List Nat) (ws : List (List Nat)) (v5 v7 : Option V) (fl : Bool), σ = [some (.ref b), some (.int m), some (.ref l), some (.str (S a)), some (.ref g), v5, some (.bl fl), v7] ∧ L.length = 26 - i ∧ L.all smallC = true ∧
        okWs wordL ws ∧ ws.length = i ∧ Upto b H H4 ∧ BagAt H4 b ∧ H4 l = some (.lst (txV (oneL L))) ∧ H4 g = some (.lst (txV ws)))
        ⟨_, [], _, _, _, rfl, by decide +kernel, by decide +kernel, fun _ h => absurd h (List.not_mem_nil), rfl, S3, B3, u3 _ _ (bagNe B nl) hl2, u3 _ _ (bagNe B ng0) hg2⟩ (fun _ _ _ _ _ => trivial) ?_ ?_
      · rintro i x σ H4 H5 hi ⟨L, ws, v5, v7, fl, rfl, hL, hLs, hw, hwl, u4, B4, hl4, hg4⟩ ⟨rfl, rfl⟩
        have hlen : (txV (oneL L)).length = 26 - i := by rw [txV_len]; simp [oneL, hL]
        refine ⟨_, rfl, .inl ⟨rfl, _, SqL.of hl4⟩, _, rfl, _, rfl, l, _, rfl, .inl (SqL.of hl4), b, _, rfl, B4, by omega, lt9000 (by omega) (by omega), fun x H6 x0 x1 u6 B6 => ?_⟩
        have hl6 := u6 _ _ (bagNe B nl) hl4
        have hg6 := u6 _ _ (bagNe B ng0) hg4
        rw [hlen] at x1
        have hx : x.toNat < L.length := by omega
        refine ⟨l, _, x, x.toNat, .str (S [L[x.toNat]]), rfl, rfl, hl6, by omega, by omega, seqIx x0 (by rw [hlen]; exact x1), by simp [txV, oneL, hx], ?_⟩
        rw [txV_erase, oneL_erase]
        have hs : smallC L[x.toNat] = true := List.all_eq_true.mp hLs _ (List.getElem_mem hx)
        have B7 : BagAt (upd H6 l (.lst (txV (oneL (L.eraseIdx x.toNat))))) b := B6.upd (bagNe B nl)
        have U7 : Upto b H (upd H6 l (.lst (txV (oneL (L.eraseIdx x.toNat))))) := (u4.trans u6).upd nl
        have hg7 : (upd H6 l (.lst (txV (oneL (L.eraseIdx x.toNat))))) g = some (.lst (txV ws)) := by rw [upd_ne (Ne.symm hlg)]; exact hg6
        refine ⟨_, rfl, .inl ⟨rfl, _, SqL.of hg7⟩, _, rfl, ?_⟩
        have fin : ∀ wd : List Nat, wordL wd = true → ∃ (L' : List Nat) (ws' : List (List Nat)) (v5 v7 : Option V) (fl' : Bool), [some (.ref b), some (.int m), some (.ref l), some (.str (S a)), some (.ref g), some (V.int (0 + (i : Int))), some (.bl fl), some (.str (S [L[x.toNat]]))] = [some (.ref b), some (.int (m : Int)), some (.ref l), some (.str (S a)), some (.ref g), v5, some (.bl fl'), v7] ∧ L'.length = 26 - (i + 1) ∧ L'.all smallC = true ∧
            okWs wordL ws' ∧ ws'.length = i + 1 ∧ Upto b H (upd (upd H6 l (.lst (txV (oneL (L.eraseIdx x.toNat))))) g (.lst (txV ws ++ [.str (S wd)]))) ∧ BagAt (upd (upd H6 l (.lst (txV (oneL (L.eraseIdx x.toNat))))) g (.lst (txV ws ++ [.str (S wd)]))) b ∧
            (upd (upd H6 l (.lst (txV (oneL (L.eraseIdx x.toNat))))) g (.lst (txV ws ++ [.str (S wd)]))) l = some (.lst (txV (oneL L'))) ∧ (upd (upd H6 l (.lst (txV (oneL (L.eraseIdx x.toNat))))) g (.lst (txV ws ++ [.str (S wd)]))) g = some (.lst (txV ws')) := fun wd hwd =>
          ⟨L.eraseIdx x.toNat, ws ++ [wd], _, _, _, rfl, by rw [List.length_eraseIdx_of_lt hx]; omega, List.all_eq_true.mpr fun c hc => List.all_eq_true.mp hLs c (List.mem_of_mem_eraseIdx hc),
            fun y hy => (List.mem_append.mp hy).elim (hw y) (fun h => by cases List.mem_singleton.mp h; exact hwd), by simp [hwl], U7.upd ng0, B7.upd (bagNe B ng0), by rw [upd_ne hlg]; exact upd_same, by rw [upd_same, txV_snoc]⟩
        have s1 : smallL [L[x.toNat]] = true := by simp [smallL, hs]
        refine ⟨_, rfl, ?_⟩
        have o1 := outN_one L[x.toNat]
        have o2 := outN_stem hA
        have sa := stem_small hA
        refine ite2 (fun h1 => ?_) (fun h1 => ?_)
        · refine ⟨_, rfl, _, rfl, _, _, rfl, rfl, by rw [S_len, S_len]; exact sz (by simp; omega), ?_⟩
          rw [S_cat]
          refine ⟨g, _, _, rfl, rfl, hg7, by rw [txV_len]; exact Nat.lt_of_le_of_lt (by omega : ws.length ≤ 100) (by decide), ?_⟩
          exact fin _ (word_of (by simp) (by simp; omega) (smallL_app s1 sa) (by rw [outN_app]; omega))
        · refine ⟨_, rfl, _, rfl, _, _, rfl, rfl, by rw [S_len, S_len]; exact sz (by simp; omega), ?_⟩
          rw [S_cat]
          refine ⟨g, _, _, rfl, rfl, hg7, by rw [txV_len]; exact Nat.lt_of_le_of_lt (by omega : ws.length ≤ 100) (by decide), ?_⟩
          exact fin _ (word_of (by simp) (by simp; omega) (smallL_app sa s1) (by rw [outN_app]; omega))
      · rintro σ H4 ⟨L, ws, v5, v7, fl, rfl, hL, hLs, hw, hwl, u4, B4, hl4, hg4⟩
        exact ⟨_, rfl, k ws g H4 hw (by omega) (bagNe B ng0) ng0 hg4 u4 B4⟩
theorem class_of {c : Nat} {a : List Nat} (h1 : a.length ≤ 7) (h2 : capC c = true) (h3 : smallL a = true) : classL ([c] ++ a) = true := by
  simp only [classL, Bool.and_eq_true, decide_eq_true_eq]
  refine ⟨by simp; omega, by simp; omega, h2, h3⟩
theorem c__law_labels (T : Txt K mg Z) : Cal P w K mg base 3 "_law_labels" (spWords classL) [] := by
  have c__law_draw : Cal P w K mg base 1 "_law_draw" spDraw [] := c__law_draw T
  have c__law_one : Cal P w K mg base 2 "_law_one" (spOne K) [] := c__law_one T
  refine cal_of T.d__law_labels sc__law_labels (fun vs H Q E h => ?_) (fun f cdv A outer s H vs Q E hr h => ?_)
  · obtain ⟨b, m, rfl, _⟩ := h
    rfl
  · obtain ⟨b, m, rfl, B, hm, k⟩ := h
    refine ⟨_, (pss_cons (ps_par3 (i := 2) (j := 3) (l := 4) (by rfl) sc__law_labels.nd rfl rfl rfl (by decide) (by decide) (by decide) rfl rfl rfl (pa_cons (pe_callTy (call_listS rfl) (by rfl) T.b_list (by decide +kernel) (pa_cons pe_str pa_nil)) (pa_cons pe_str (pa_cons (pe_lst pa_nil) pa_nil))) (by rfl))
      (pss_cons (ps_for PassesOwn.never rfl (pi_range1 rfl T.b_range (pa_cons (pe_c c__law_draw hr (by omega) rfl (pa_cons (pv 0) (pa_cons pe_int pa_nil))) pa_nil)) (pg_name (i := 5) sc__law_labels.nd rfl (by first | exact Or.inl rfl | exact Or.inr rfl)) (pss_one (ps_set (i := 3) sc__law_labels.nd rfl (by first | exact Or.inl rfl | exact Or.inr rfl) (pe_op op_add_str (pv 3) (pe_c c__law_one hr (by omega) rfl (pa_cons (pv 0) (pa_cons (pe_lst (pa_cons pe_str (pa_cons pe_str (pa_cons pe_str (pa_cons pe_str (pa_cons pe_str pa_nil)))))) pa_nil)))))))
      (pss_cons (ps_for PassesOwn.never rfl (pi_range1 rfl T.b_range (pa_cons (pv 1) pa_nil)) (pg_name (i := 5) sc__law_labels.nd rfl (by first | exact Or.inl rfl | exact Or.inr rfl)) (pss_one (ps_expr (pe_bm PySem.F.plainAttrs_list PySem.F.slot_list_append PySem.F.type_list_append mt_append (pv 4) (pa_cons (pe_op op_add_str (pe_bm PySem.F.plainAttrs_list PySem.F.slot_list_pop PySem.F.type_list_pop mt_popAt (pv 2) (pa_cons (pe_c c__law_draw hr (by omega) rfl (pa_cons (pv 0) (pa_cons (pe_callB call_len_seq (by rfl) T.b_len (by decide +kernel) (pa_cons (pv 2) pa_nil)) pa_nil))) pa_nil)) (pv 3)) pa_nil)))))
      (pss_one (ps_ret (pv 4)))))), ?_⟩
    refine ⟨_, rfl, by decide, fun l nl => ⟨by decide, fun g ng => ⟨_, _, _, rfl, ?_⟩⟩⟩
    have hlg : l ≠ g := ne_of_none upd_same ng
    have ng0 : H g = none := (Same.new nl).free ng
    have e0 : (("ABCDEFGHIJKLMNOPQRSTUVWXYZ" : Str).cps.toList.map fun c => V.str ⟨#[c]⟩) = txV (oneL ("ABCDEFGHIJKLMNOPQRSTUVWXYZ" : Str).cps.toList) := by
      simp only [txV, oneL, List.map_map]
      rfl
    rw [e0]
    have B2 : BagAt (upd (upd H l (.lst (txV (oneL ("ABCDEFGHIJKLMNOPQRSTUVWXYZ" : Str).cps.toList)))) g (.lst [])) b := (B.upd (bagNe B nl)).upd (bagNe B ng0)
    refine ⟨_, rfl, b, 8, rfl, B2, by decide, lt9000 (by decide) (by decide), fun d H1 d0 d1 u1 B1 => ⟨_, rfl, by omega, by omega, ?_⟩⟩
    have hl0 : H1 l = some (.lst (txV (oneL ("ABCDEFGHIJKLMNOPQRSTUVWXYZ" : Str).cps.toList))) := u1 _ _ (bagNe B nl) (by rw [upd_ne hlg]; exact upd_same)
    have hg0 : H1 g = some (.lst []) := u1 _ _ (bagNe B ng0) upd_same
    have U1 : Upto b H H1 := ((Upto.new nl).trans (Upto.new ng)).trans u1
    refine for_it walk_range (fun i σ H2 => ∃ (a : List Nat) (v5 : Option V), σ = [some (.ref b), some (.int m), some (.ref l), some (.str (S a)), some (.ref g), v5] ∧ a.length ≤ i ∧ a.all stemT = true ∧ Upto b H H2 ∧ BagAt H2 b ∧
      H2 l = some (.lst (txV (oneL ("ABCDEFGHIJKLMNOPQRSTUVWXYZ" : Str).cps.toList))) ∧ H2 g = some (.lst [])) ⟨[], none, rfl, Nat.le_refl _, rfl, U1, B1, hl0, hg0⟩ (fun _ _ _ _ _ => trivial) ?_ ?_
    · rintro i x σ H2 H3 hi ⟨a, v5, rfl, ha, hA, u2, B2, hl2, hg2⟩ ⟨rfl, rfl⟩
      refine ⟨_, rfl, _, rfl, by decide, fun q nq => ⟨b, q, _, rfl, B2.upd (bagNe B2 nq), bagNe B2 nq, upd_same, by decide, by decide, fun v H4 hv u4 B4 => ?_⟩⟩
      obtain ⟨c, rfl, hc, hC⟩ := okStem_spec (p := stemT) (n := 1) (List.all_eq_true.mp (show List.all _ (okStem stemT 1) = true by decide +kernel) v hv)
      refine ⟨_, _, rfl, rfl, by rw [S_len, S_len]; exact sz (by have := ha; omega), ?_⟩
      rw [S_cat]
      exact ⟨a ++ c, _, rfl, by simp; omega, by rw [List.all_append, hA, hC]; rfl, u2.trans ((Upto.new nq).trans u4), B4, u4 _ _ (bagNe B nl) ((Same.new nq) _ _ hl2), u4 _ _ (bagNe B ng0) ((Same.new nq) _ _ hg2)⟩
    · rintro σ H2 ⟨a, v5, rfl, ha, hA, u2, B2, hl2, hg2⟩
      have ha : a.length ≤ 7 := by omega
      refine ⟨_, rfl, _, rfl, by omega, by omega, ?_⟩
      refine for_it walk_range (fun i σ H4 => ∃ (L : List Nat) (ws : List (List Nat)) (v5 : Option V), σ = [some (.ref b), some (.int m), some (.ref l), some (.str (S a)), some (.ref g), v5] ∧ L.length = 26 - i ∧ L.all capC = true ∧
        okWs classL ws ∧ ws.length = i ∧ Upto b H H4 ∧ BagAt H4 b ∧ H4 l = some (.lst (txV (oneL L))) ∧ H4 g = some (.lst (txV ws)))
        ⟨_, [], _, rfl, by decide +kernel, by decide +kernel, fun _ h => absurd h (List.not_mem_nil), rfl, u2, B2, hl2, hg2⟩ (fun _ _ _ _ _ => trivial) ?_ ?_
      · rintro i x σ H4 H5 hi ⟨L, ws, v5, rfl, hL, hLs, hw, hwl, u4, B4, hl4, hg4⟩ ⟨rfl, rfl⟩
        have hlen : (txV (oneL L)).length = 26 - i := by rw [txV_len]; simp [oneL, hL]
        refine ⟨_, rfl, .inl ⟨rfl, _, SqL.of hg4⟩, _, rfl, .inl ⟨rfl, _, SqL.of hl4⟩, _, rfl, _, rfl, l, _, rfl, .inl (SqL.of hl4), b, _, rfl, B4, by omega, lt9000 (by omega) (by omega), fun x H6 x0 x1 u6 B6 => ?_⟩
        have hl6 := u6 _ _ (bagNe B nl) hl4
        have hg6 := u6 _ _ (bagNe B ng0) hg4
        rw [hlen] at x1
        have hx : x.toNat < L.length := by omega
        refine ⟨l, _, x, x.toNat, .str (S [L[x.toNat]]), rfl, rfl, hl6, by omega, by omega, seqIx x0 (by rw [hlen]; exact x1), by simp [txV, oneL, hx], ?_⟩
        rw [txV_erase, oneL_erase]
        have hs : capC L[x.toNat] = true := List.all_eq_true.mp hLs _ (List.getElem_mem hx)
        have B7 : BagAt (upd H6 l (.lst (txV (oneL (L.eraseIdx x.toNat))))) b := B6.upd (bagNe B nl)
        have U7 : Upto b H (upd H6 l (.lst (txV (oneL (L.eraseIdx x.toNat))))) := (u4.trans u6).upd nl
        have hg7 : (upd H6 l (.lst (txV (oneL (L.eraseIdx x.toNat))))) g = some (.lst (txV ws)) := by rw [upd_ne (Ne.symm hlg)]; exact hg6
        refine ⟨_, rfl, _, _, rfl, rfl, by rw [S_len, S_len]; exact sz (by simp; omega), ?_⟩
        rw [S_cat]
        refine ⟨g, _, _, rfl, rfl, hg7, by rw [txV_len]; exact Nat.lt_of_le_of_lt (by omega : ws.length ≤ 100) (by decide), ?_⟩
        refine ⟨L.eraseIdx x.toNat, ws ++ [[L[x.toNat]] ++ a], _, rfl, by rw [List.length_eraseIdx_of_lt hx]; omega, List.all_eq_true.mpr fun c hc => List.all_eq_true.mp hLs c (List.mem_of_mem_eraseIdx hc),
            fun y hy => (List.mem_append.mp hy).elim (hw y) (fun h => by cases List.mem_singleton.mp h; exact class_of ha hs (stemT_small hA)), by simp [hwl], U7.upd ng0, B7.upd (bagNe B ng0), by rw [upd_ne hlg]; exact upd_same, by rw [upd_same, txV_snoc]⟩
      · rintro σ H4 ⟨L, ws, v5, rfl, hL, hLs, hw, hwl, u4, B4, hl4, hg4⟩
        exact ⟨_, rfl, k ws g H4 hw (by omega) (bagNe B ng0) ng0 hg4 u4 B4⟩

theorem intN2 {b : Addr} {d : Int} (h : 0 ≤ d) : [V.ref b] ++ [V.int d] = [V.ref b, V.int ((d.toNat : Nat) : Int)] := by
  rw [Int.toNat_of_nonneg h]
  rfl
/-- the words at hand: names, methods, classes -/
def WordsAt (K : PySem.W.Frag) (H : Hp) (b w0 : Addr) : Prop := ∃ (p0 p1 p2 : Addr) (n0 n1 n2 : List (List Nat)), SqT K H w0 [.ref p0, .ref p1, .ref p2, .ref p2] ∧ p0 ≠ b ∧ p1 ≠ b ∧ p2 ≠ b ∧
  H p0 = some (.lst (txV n0)) ∧ H p1 = some (.lst (txV n1)) ∧ H p2 = some (.lst (txV n2)) ∧ okWs wordL n0 ∧ okWs wordL n1 ∧ okWs classL n2 ∧ (1 ≤ n0.length ∧ n0.length ≤ 12) ∧ (1 ≤ n1.length ∧ n1.length ≤ 12) ∧ (2 ≤ n2.length ∧ n2.length ≤ 12)
def spStart (K : PySem.W.Frag) : Sp := fun vs H Q _ => ∃ (b : Addr), vs = [.ref b] ∧ BagAt H b ∧ ∀ (w0 : Addr) H', H w0 = none → WordsAt K H' b w0 → (∀ p, H p = none → p ≠ b → True) → Upto b H H' → BagAt H' b → Q (.ref w0) H'
theorem c__law_start (T : Txt K mg Z) : Cal P w K mg base 4 "_law_start" (spStart K) [] := by
  have c__law_draw : Cal P w K mg base 1 "_law_draw" spDraw [] := c__law_draw T
  have c__law_words : Cal P w K mg base 3 "_law_words" (spWords wordL) [] := c__law_words T
  have c__law_labels : Cal P w K mg base 3 "_law_labels" (spWords classL) [] := c__law_labels T
  refine cal_of T.d__law_start sc__law_start (fun vs H Q E h => ?_) (fun f cdv A outer s H vs Q E hr h => ?_)
  · obtain ⟨b, rfl, _⟩ := h
    rfl
  · obtain ⟨b, rfl, B, k⟩ := h
    refine ⟨_, (pss_cons (ps_par (i := 1) (j := 2) (by rfl) sc__law_start.nd rfl rfl (by decide) rfl rfl (pa_cons (pe_c c__law_words hr (by omega) rfl (pa_cons (pv 0) (pa_cons (pe_op op_add pe_int (pe_c c__law_draw hr (by omega) rfl (pa_cons (pv 0) (pa_cons pe_int pa_nil)))) pa_nil))) (pa_cons (pe_c c__law_words hr (by omega) rfl (pa_cons (pv 0) (pa_cons (pe_op op_add pe_int (pe_c c__law_draw hr (by omega) rfl (pa_cons (pv 0) (pa_cons pe_int pa_nil)))) pa_nil))) pa_nil)) (by rfl))
      (pss_cons (ps_set (i := 3) sc__law_start.nd rfl (by first | exact Or.inl rfl | exact Or.inr rfl) (pe_c c__law_labels hr (by omega) rfl (pa_cons (pv 0) (pa_cons (pe_op op_add pe_int (pe_c c__law_draw hr (by omega) rfl (pa_cons (pv 0) (pa_cons pe_int pa_nil)))) pa_nil))))
      (pss_one (ps_ret (pe_tup (pa_cons (pv 1) (pa_cons (pv 2) (pa_cons (pv 3) (pa_cons (pv 3) pa_nil))))))))), ?_⟩
    refine ⟨_, rfl, _, rfl, b, 10, rfl, B, by decide, lt9000 (by decide) (by decide), fun d H1 d0 d1 u1 B1 => ?_⟩
    refine ⟨_, _, rfl, rfl, b, (1 + d).toNat, intN2 (by omega), B1, by omega, fun n0 p0 H2 o0 l0 e0 f0 h0 u2 B2 => ?_⟩
    refine ⟨_, rfl, _, rfl, b, 10, rfl, B2, by decide, lt9000 (by decide) (by decide), fun c H3 c0 c1 u3 B3 => ?_⟩
    refine ⟨_, _, rfl, rfl, b, (1 + c).toNat, intN2 (by omega), B3, by omega, fun n1 p1 H4 o1 l1 e1 f1 h1 u4 B4 => ⟨_, _, rfl, ?_⟩⟩
    refine ⟨_, rfl, _, rfl, b, 9, rfl, B4, by decide, lt9000 (by decide) (by decide), fun g H5 g0 g1 u5 B5 => ?_⟩
    refine ⟨_, _, rfl, rfl, b, (2 + g).toNat, intN2 (by omega), B5, by omega, fun n2 p2 H6 o2 l2 e2 f2 h2 u6 B6 => ?_⟩
    have U := u1.trans (u2.trans (u3.trans (u4.trans (u5.trans u6))))
    refine ⟨_, rfl, _, rfl, _, rfl, _, rfl, sz (by simp), fun w0 nw => ?_⟩
    have s6 := fun (o : HO) => Same.new (o := o) nw
    have nb : w0 ≠ b := bagNe B6 nw
    have nH : H w0 = none := by
      cases e : H w0 with
      | none => rfl
      | some o =>
        have := U _ _ nb e
        rw [this] at nw
        cases nw
    exact k w0 _ nH ⟨p0, p1, p2, n0, n1, n2, SqT.of upd_same, e0, e1, e2, s6 _ _ _ ((u3.trans (u4.trans (u5.trans u6))) _ _ e0 h0), s6 _ _ _ ((u5.trans u6) _ _ e1 h1), s6 _ _ _ h2, o0, o1, o2, by omega, by omega, by omega⟩ (fun _ _ _ => trivial) (U.trans (Upto.of (s6 _))) (B6.upd nb)
end

/-! ### 8. the law's bodies -/
mutual
def wtS : Stp → Nat
  | .word _ _ => 1
  | .cls _ _ => 1
  | .bare _ => 1
  | .loop b => 2 + wtB b
  | .iff _ a b => 3 + wtB a + wtB b
  | .tr a b => 3 + wtB a + wtB b
  | .ei bs => 1 + wtL bs
def wtB : List Stp → Nat
  | [] => 0
  | s :: b => wtS s + wtB b
def wtL : List (List Stp) → Nat
  | [] => 0
  | b :: bs => 1 + wtB b + wtL bs
end
theorem datB_snoc : ∀ (b : List Stp) (s : Stp), datB (b ++ [s]) = datB b ++ [datS s]
  | [], _ => rfl
  | t :: b, s => congrArg (datS t :: ·) (datB_snoc b s)
theorem datL_snoc : ∀ (b : List (List Stp)) (s : List Stp), datL (b ++ [s]) = datL b ++ [.tuple (datB s)]
  | [], _ => rfl
  | t :: b, s => congrArg (PyData.tuple (datB t) :: ·) (datL_snoc b s)
theorem wtB_snoc : ∀ (b : List Stp) (s : Stp), wtB (b ++ [s]) = wtB b + wtS s
  | [], s => by simp [wtB]
  | t :: b, s => by
    show wtS t + wtB (b ++ [s]) = wtS t + wtB b + wtS s
    rw [wtB_snoc b s]
    omega
theorem wtL_snoc : ∀ (b : List (List Stp)) (s : List Stp), wtL (b ++ [s]) = wtL b + (1 + wtB s)
  | [], s => by simp [wtL]
  | t :: b, s => by
    show 1 + wtB t + wtL (b ++ [s]) = 1 + wtB t + wtL b + (1 + wtB s)
    rw [wtL_snoc b s]
    omega
/-- what stays: all but two -/
def Up2 (b r : Addr) (H H' : Hp) : Prop := ∀ c o, c ≠ b → c ≠ r → H c = some o → H' c = some o
theorem Up2.of {b r : Addr} {H H' : Hp} (u : Upto b H H') : Up2 b r H H' := fun c o h _ e => u c o h e
theorem Up2.ofS {b r : Addr} {H H' : Hp} (u : Same H H') : Up2 b r H H' := fun c o _ _ e => u c o e
theorem Up2.trans {b r : Addr} {H H1 H2 : Hp} (u : Up2 b r H H1) (v : Up2 b r H1 H2) : Up2 b r H H2 := fun c o h1 h2 e => v c o h1 h2 (u c o h1 h2 e)
theorem Up2.refl {b r : Addr} {H : Hp} : Up2 b r H H := fun _ _ _ _ e => e
theorem Up2.upd {b r p : Addr} {H H1 : Hp} {o : HO} (u : Up2 b r H H1) (h : H p = none) : Up2 b r H (upd H1 p o) := fun c q h1 h2 e => by
  rw [upd_ne (ne_of_none e h)]
  exact u c q h1 h2 e
theorem up2_updF {b r p : Addr} {H H1 : Hp} {o : HO} (u : Up2 b r H H1) (h : H1 p = none) : Up2 b r H (upd H1 p o) := fun c q h1 h2 e => by
  have e1 := u c q h1 h2 e
  rw [upd_ne (ne_of_none e1 h)]
  exact e1
theorem up2_updR {b r : Addr} {H H1 : Hp} {o : HO} (u : Up2 b r H H1) : Up2 b r H (upd H1 r o) := fun c q h1 h2 e => by
  rw [upd_ne h2]
  exact u c q h1 h2 e
theorem BagAt.lst {H : Hp} {b : Addr} (B : BagAt H b) : ∃ xs, H b = some (.lst xs) := by
  obtain ⟨x, y, _, e⟩ := B
  exact ⟨_, e⟩
theorem TStay.two {b r : Addr} {H H' : Hp} {xs ys : List V} (hb : H b = some (.lst xs)) (hr : H r = some (.lst ys)) (u : Up2 b r H H') : TStay H H' :=
  ⟨fun a zs ha => u a _ (ne_of ha hb (by intro z; cases z)) (ne_of ha hr (by intro z; cases z)) ha, fun a o q ha => u a _ (ne_of ha hb (by intro z; cases z)) (ne_of ha hr (by intro z; cases z)) ha⟩
theorem TStay.sq {K : PySem.W.Frag} {H H' : Hp} {a : Addr} {xs : List V} (e : TStay H H') (h : SqT K H a xs) : SqT K H' a xs := h.elim (fun z => .inl (e.rd z)) .inr
theorem none_of {b r p : Addr} {H H' : Hp} (u : Up2 b r H H') (h : H' p = none) (h1 : p ≠ b) (h2 : p ≠ r) : H p = none := by
  cases e : H p with
  | none => rfl
  | some o =>
    rw [u _ _ h1 h2 e] at h
    cases h
/-- the room left -/
def RoomAt (H : Hp) (r : Addr) (R : Nat) : Prop := H r = some (.lst [.int (R : Nat)])
theorem txV_first {ws : List (List Nat)} (h : 1 ≤ ws.length) {z : Int} {l : List V} : txV ws ≠ V.int z :: l := by
  cases ws with
  | nil => simp at h
  | cons a ws => intro e; simp [txV] at e
section
variable {K : PySem.W.Frag}
theorem WordsAt.ne {H : Hp} {b w0 r : Addr} {R : Nat} (h : WordsAt K H b w0) (hr : RoomAt H r R) : ∃ (p0 p1 p2 : Addr) (n0 n1 n2 : List (List Nat)), SqT K H w0 [.ref p0, .ref p1, .ref p2, .ref p2] ∧ p0 ≠ b ∧ p1 ≠ b ∧ p2 ≠ b ∧ p0 ≠ r ∧ p1 ≠ r ∧ p2 ≠ r ∧
    H p0 = some (.lst (txV n0)) ∧ H p1 = some (.lst (txV n1)) ∧ H p2 = some (.lst (txV n2)) ∧ okWs wordL n0 ∧ okWs wordL n1 ∧ okWs classL n2 ∧ (1 ≤ n0.length ∧ n0.length ≤ 12) ∧ (1 ≤ n1.length ∧ n1.length ≤ 12) ∧ (2 ≤ n2.length ∧ n2.length ≤ 12) := by
  obtain ⟨p0, p1, p2, n0, n1, n2, hT, e0, e1, e2, h0, h1, h2, o0, o1, o2, l0, l1, l2⟩ := h
  have ne : ∀ {p : Addr} {n : List (List Nat)}, H p = some (.lst (txV n)) → 1 ≤ n.length → p ≠ r := fun {p n} e l q => by
    subst q
    rw [RoomAt, e] at hr
    exact txV_first l (HO.lst.inj (Option.some.inj hr))
  exact ⟨p0, p1, p2, n0, n1, n2, hT, e0, e1, e2, ne h0 l0.1, ne h1 l1.1, ne h2 (by omega), h0, h1, h2, o0, o1, o2, l0, l1, l2⟩
theorem WordsAt.stay {H H' : Hp} {b w0 r : Addr} {R : Nat} (h : WordsAt K H b w0) (hr : RoomAt H r R) (hb : BagAt H b) (u : Up2 b r H H') : WordsAt K H' b w0 := by
  obtain ⟨p0, p1, p2, n0, n1, n2, hT, e0, e1, e2, f0, f1, f2, h0, h1, h2, o⟩ := h.ne hr
  obtain ⟨xs, hb⟩ := hb.lst
  exact ⟨p0, p1, p2, n0, n1, n2, (TStay.two hb hr u).sq hT, e0, e1, e2, u _ _ e0 f0 h0, u _ _ e1 f1 h1, u _ _ e2 f2 h2, o⟩
def spLStep (K : PySem.W.Frag) (n : Nat) : Sp := fun vs H Q _ => ∃ (b w0 r : Addr) (R d : Nat), vs = [.ref b, .ref w0, .ref r, .int (d : Nat)] ∧ d ≤ n ∧ BagAt H b ∧ r ≠ b ∧ RoomAt H r R ∧ WordsAt K H b w0 ∧
  ∀ (v : V) (s : Stp) (R' : Nat) H', okSt (okK d) s → Dt K H' v (datS s) → wtS s + 4 * R' ≤ 4 * R + 4 → RoomAt H' r R' → Up2 b r H H' → BagAt H' b → Q v H'
def spLBody (K : PySem.W.Frag) (n : Nat) : Sp := fun vs H Q _ => ∃ (b w0 r : Addr) (R d : Nat), vs = [.ref b, .ref w0, .ref r, .int (d : Nat)] ∧ d < n ∧ BagAt H b ∧ r ≠ b ∧ RoomAt H r R ∧ WordsAt K H b w0 ∧
  ∀ (v : V) (bd : List Stp) (R' : Nat) H', okK (d + 1) bd → Dt K H' v (.tuple (datB bd)) → wtB bd + 4 * R' ≤ 4 * R → RoomAt H' r R' → Up2 b r H H' → BagAt H' b → Q v H'
end
section
variable {P : Program} {w : World} {K : PySem.W.Frag} {mg : Str → Option Value} {base : Heap} {Z : Addrs}
/-- what the law's step is made with: nothing, or bodies a depth less -/
theorem c__law_body (T : Txt K mg Z) {n l : Nat} (hl : 1 ≤ l) (c__law_step : Cal P w K mg base l "_law_step" (spLStep K n) []) : Cal P w K mg base (l + 1) "_law_body" (spLBody K (n + 1)) [] := by
  have c__law_draw : Cal P w K mg base 1 "_law_draw" spDraw [] := c__law_draw T
  refine cal_of T.d__law_body sc__law_body (fun vs H Q E h => ?_) (fun f cdv A outer s H vs Q E hr h => ?_)
  · obtain ⟨b, w0, r, R, d, rfl, _⟩ := h
    rfl
  · obtain ⟨b, w0, r, R, d, rfl, hd, B, hrb, hR, hW, k⟩ := h
    refine ⟨_, (pss_cons (ps_set (i := 4) sc__law_body.nd rfl (by first | exact Or.inl rfl | exact Or.inr rfl) (pe_lst pa_nil))
      (pss_cons (ps_for PassesOwn.never rfl (pi_range1 rfl T.b_range (pa_cons (pe_c c__law_draw hr (by omega) rfl (pa_cons (pv 0) (pa_cons pe_int pa_nil))) pa_nil)) (pg_name (i := 5) sc__law_body.nd rfl (by first | exact Or.inl rfl | exact Or.inr rfl)) (pss_one (ps_if (pt_cmpR op_gt (pe_ix ix_list (pv 2) pe_int (fun _ _ => rfl)) pe_int (nomark _)) (pss_cons (ps_asg (pe_op op_sub (pe_ix ix_list (pv 2) pe_int (fun _ _ => rfl)) pe_int) (pg_sub (pv 2) pe_int set_list))
      (pss_one (ps_expr (pe_bm PySem.F.plainAttrs_list PySem.F.slot_list_append PySem.F.type_list_append mt_append (pv 4) (pa_cons (pe_c c__law_step hr (by omega) rfl (pa_cons (pv 0) (pa_cons (pv 1) (pa_cons (pv 2) (pa_cons (pv 3) pa_nil))))) pa_nil))))) pss_nil)))
      (pss_one (ps_ret (pe_callTy call_tuple_of (by rfl) T.b_tuple (by decide +kernel) (pa_cons (pv 4) pa_nil)))))), ?_⟩
    refine ⟨by decide, fun g ng => ?_⟩
    have gb : g ≠ b := bagNe B ng
    have gr : g ≠ r := fun e => by
      subst e
      rw [RoomAt, ng] at hR
      cases hR
    have B0 : BagAt (upd H g (.lst [])) b := B.upd gb
    refine ⟨_, rfl, b, 4, rfl, B0, by decide, lt9000 (by decide) (by decide), fun m H1 m0 m1 u1 B1 => ⟨_, rfl, by omega, by omega, ?_⟩⟩
    have U1 : Up2 b r H H1 := (Up2.ofS (Same.new ng)).trans (Up2.of u1)
    have R1 : RoomAt H1 r R := u1 _ _ hrb (by rw [upd_ne (Ne.symm gr)]; exact hR)
    have hg1 : H1 g = some (.lst []) := u1 _ _ gb upd_same
    refine for_it walk_range (fun i σ H2 => ∃ (vs : List V) (bd : List Stp) (R2 : Nat) (v5 : Option V), σ = [some (.ref b), some (.ref w0), some (.ref r), some (.int (d : Nat)), some (.ref g), v5] ∧ bd.length ≤ i ∧ okK (d + 1) bd ∧ DtAll K H2 vs (datB bd) ∧
      wtB bd + 4 * R2 ≤ 4 * R ∧ RoomAt H2 r R2 ∧ Up2 b r H H2 ∧ BagAt H2 b ∧ H2 g = some (.lst vs)) ⟨[], [], R, none, rfl, Nat.le_refl _, (fun _ h => absurd h (List.not_mem_nil)), .nil, by simp [wtB], R1, U1, B1, hg1⟩ (fun _ _ _ _ _ => trivial) ?_ ?_
    · rintro i x σ H2 H3 hi ⟨vs, bd, R2, v5, rfl, hlen, hok, hD, hwt, hR2, u2, B2, hg2⟩ ⟨rfl, rfl⟩
      refine ⟨_, rfl, r, _, 0, _, rfl, rfl, SqL.of hR2, rfl, _, _, rfl, rfl, _, rfl, ?_⟩
      refine ite2 (fun h1 => ?_) (fun h1 => ?_)
      · have h1 : 1 ≤ R2 := by have := of_decide_eq_true h1; omega
        refine ⟨_, rfl, r, _, 0, _, rfl, rfl, SqL.of hR2, rfl, _, _, rfl, rfl, _, rfl, r, _, _, 0, rfl, rfl, hR2, rfl, ?_⟩
        have hR3 : RoomAt (upd H3 r (.lst [.int ((R2 : Int) - 1)])) r (R2 - 1) := by
          rw [RoomAt, upd_same, Int.natCast_sub h1]
          rfl
        have u3 : Up2 b r H (upd H3 r (.lst [.int ((R2 : Int) - 1)])) := up2_updR u2
        have B3 : BagAt (upd H3 r (.lst [.int ((R2 : Int) - 1)])) b := B2.upd hrb
        have hg3 : (upd H3 r (.lst [.int ((R2 : Int) - 1)])) g = some (.lst vs) := by rw [upd_ne gr]; exact hg2
        have ts3 : TStay H3 (upd H3 r (.lst [.int ((R2 : Int) - 1)])) := TStay.lst hR2
        refine ⟨_, rfl, .inl ⟨rfl, _, SqL.of hg3⟩, _, rfl, _, rfl, _, rfl, _, rfl, b, w0, r, R2 - 1, d, rfl, Nat.le_of_lt_succ hd, B3, hrb, hR3, hW.stay hR B u3, fun v s R4 H4 so sd sw hR4 u4 B4 => ?_⟩
        obtain ⟨zs, hb3⟩ := B3.lst
        have ts4 := TStay.two hb3 hR3 u4
        have hg4 := u4 _ _ gb gr hg3
        have ts5 := TStay.lst (o := .lst (vs ++ [v])) hg4
        refine ⟨g, _, _, rfl, rfl, hg4, by rw [dtAll_len hD, datB_len]; exact Nat.lt_of_le_of_lt (by omega : bd.length ≤ 100) (by decide), ?_⟩
        refine ⟨vs ++ [v], bd ++ [s], R4, _, rfl, by simp; omega, fun t ht => (List.mem_append.mp ht).elim (hok t) (fun h => by cases List.mem_singleton.mp h; exact so), ?_, by rw [wtB_snoc]; omega, by rw [RoomAt, upd_ne (Ne.symm gr)]; exact hR4, ?_, B4.upd gb, upd_same⟩
        · rw [datB_snoc]
          exact dtAll_snoc (dtAll_stay (TStay.trans ts3 (TStay.trans ts4 ts5)) _ _ hD) (dt_stay ts5 _ _ sd)
        · exact (u3.trans u4).upd ng
      · exact ⟨vs, bd, R2, _, rfl, by omega, hok, hD, hwt, hR2, u2, B2, hg2⟩
    · rintro σ H2 ⟨vs, bd, R2, v5, rfl, hlen, hok, hD, hwt, hR2, u2, B2, hg2⟩
      refine ⟨_, rfl, g, vs, rfl, .inl ⟨SqL.of hg2, fun q nq => ?_⟩⟩
      have st := Same.new (o := .tup vs) nq
      have nqr : q ≠ r := fun e => by
        subst e
        rw [RoomAt, nq] at hR2
        cases hR2
      exact k _ bd R2 _ hok (.tup (SqT.of upd_same) (dtAll_stay (TStay.of st) _ _ hD)) hwt (by rw [RoomAt, upd_ne (Ne.symm nqr)]; exact hR2) (u2.trans (Up2.ofS st)) (B2.upd (bagNe B2 nq))
theorem c__law_body0 (T : Txt K mg Z) : Cal P w K mg base 2 "_law_body" (spLBody K 0) [] := by
  refine cal_of T.d__law_body sc__law_body (fun vs H Q E h => ?_) (fun f cdv A outer s H vs Q E hr h => ?_)
  · obtain ⟨b, w0, r, R, d, rfl, h, _⟩ := h
    exact absurd h (Nat.not_lt_zero _)
  · obtain ⟨b, w0, r, R, d, rfl, h, _⟩ := h
    exact absurd h (Nat.not_lt_zero _)
end

theorem atI_some {α : Type} {xs : List α} {i : Int} (h0 : 0 ≤ i) (h : i < (xs.length : Int)) : ∃ v, atI xs i = some v ∧ v ∈ xs := by
  obtain ⟨j, rfl⟩ : ∃ j : Nat, i = (j : Int) := ⟨i.toNat, by omega⟩
  exact ⟨xs[j], atI_nat (by simp [show j < xs.length by omega]), List.getElem_mem (by omega)⟩
def Asc (a : List Nat) : Prop := ∀ c ∈ a, c < 128
theorem isL_lt {c : Nat} (h : isL c = true) : c < 128 := by
  simp only [isL, Bool.or_eq_true, smallC, capC, decide_eq_true_eq] at h
  have h1 : ∀ c ∈ ("abcdefghijklmnopqrstuvwxyz" : Str).cps.toList, c < 128 := by decide +kernel
  have h2 : ∀ c ∈ ("ABCDEFGHIJKLMNOPQRSTUVWXYZ" : Str).cps.toList, c < 128 := by decide +kernel
  exact h.elim (h1 c) (h2 c)
theorem tok_asc {a : List Nat} (h : a ≠ [] ∧ ∀ x ∈ a, isL x = true) : Asc a := fun c hc => isL_lt (h.2 c hc)
theorem strOk_S {a : List Nat} (h : Asc a) : PyData.strOk (S a) = true := by
  simp only [PyData.strOk, Array.all_eq_true_iff_forall_mem]
  intro c hc
  have := h c (by simpa using hc)
  simp
  omega
def strsD (ws : List (List Nat)) : List PyData := ws.map fun a => .str (S a)
theorem dp_txV {K : PySem.W.Frag} {H : Hp} : ∀ ws : List (List Nat), DpAll K H (txV ws) (strsD ws)
  | [] => .nil
  | a :: ws => .cons (.str _) (dp_txV ws)
theorem lay_strsD : ∀ {ws : List (List Nat)}, (∀ a ∈ ws, Asc a) → PyData.canLayAll0 (strsD ws) = true
  | [], _ => rfl
  | a :: ws, h => by
    show (PyData.strOk (S a) && PyData.canLayAll0 (strsD ws)) = true
    rw [lay_strsD fun c hc => h c (List.mem_cons_of_mem _ hc), strOk_S (h a (List.mem_cons_self ..))]
    rfl
theorem dep_strsD : ∀ ws : List (List Nat), PyData.depthAll (strsD ws) = 0
  | [] => rfl
  | a :: ws => by
    show max (PyData.depth (.str (S a))) (PyData.depthAll (strsD ws)) = 0
    rw [dep_strsD ws]
    rfl
theorem shaped_strsD {ws : List (List Nat)} (h : ∀ a ∈ ws, Asc a) : SeqAt.shaped (.list (strsD ws)) = true := by
  have e : PyData.canLay0 (.list (strsD ws)) = true := lay_strsD h
  have e2 : PyData.depth (.list (strsD ws)) = PyData.depthAll (strsD ws) + 1 := rfl
  simp [SeqAt.shaped, e, e2, dep_strsD]
theorem txV_mem {v : V} {ws : List (List Nat)} (h : v ∈ txV ws) : ∃ a, a ∈ ws ∧ v = .str (S a) := by
  simp only [txV, List.mem_map] at h
  obtain ⟨x, ⟨a, ha, rfl⟩, rfl⟩ := h
  exact ⟨a, ha, rfl⟩
section
variable {P : Program} {w : World} {K : PySem.W.Frag} {mg : Str → Option Value} {base : Heap} {Z : Addrs}
theorem c__law_step (T : Txt K mg Z) {n l : Nat} (hl : 2 ≤ l) (c__law_body : Cal P w K mg base l "_law_body" (spLBody K n) []) : Cal P w K mg base (l + 1) "_law_step" (spLStep K n) [] := by
  have c__law_draw : Cal P w K mg base 1 "_law_draw" spDraw [] := c__law_draw T
  have c__law_one : Cal P w K mg base 2 "_law_one" (spOne K) [] := c__law_one T
  refine cal_of T.d__law_step sc__law_step (fun vs H Q E h => ?_) (fun f cdv A outer s H vs Q E hr h => ?_)
  · obtain ⟨b, w0, r, R, d, rfl, _⟩ := h
    rfl
  · obtain ⟨b, w0, r, R, d, rfl, hd, B, hrb, hR, hW, k⟩ := h
    refine ⟨_, (C8.pss_cut (ps_set (i := 4) sc__law_step.nd rfl (by first | exact Or.inl rfl | exact Or.inr rfl) (pe_c c__law_draw hr (by omega) rfl (pa_cons (pv 0) (pa_cons (pe_ifExp (pt_cmpR op_gt (pv 3) pe_int (nomark _)) pe_int pe_int) pa_nil))))
      (pss_cons (ps_if (pt_cmpR op_lt (pv 4) pe_int (nomark _)) (pss_one (ps_ret (pe_tup (pa_cons (pe_ix ix_list (pe_lst (pa_cons pe_str (pa_cons pe_str (pa_cons pe_str (pa_cons pe_str (pa_cons pe_str (pa_cons pe_str pa_nil))))))) (pv 4) (fun _ _ => rfl)) (pa_cons (pe_c c__law_one hr (by omega) rfl (pa_cons (pv 0) (pa_cons (pe_ix ix_tup (pv 1) pe_int (fun _ _ => rfl)) pa_nil))) pa_nil))))) pss_nil)
      (pss_cons (ps_if (pt_cmpR op_lt (pv 4) pe_int (nomark _)) (pss_one (ps_ret (pe_tup (pa_cons pe_str (pa_cons (pe_c c__law_one hr (by omega) rfl (pa_cons (pv 0) (pa_cons (pe_ix ix_tup (pv 1) pe_int (fun _ _ => rfl)) pa_nil))) pa_nil))))) pss_nil)
      (pss_cons (ps_if (PW.pt (pw_or (pt_cmpR op_lt (pv 4) pe_int (nomark _)) (pw_or1 (PW.pt (pw_and (pt_cmpR op_lt (pv 4) pe_int (nomark _)) (pw_and1 (pt_cmpR (op_eqD hr.units) (pe_ix ix_tup (pv 1) (pe_op op_sub (pv 4) pe_int) (fun _ _ => rfl)) (pe_lst pa_nil) (nomark _)))))))) (pss_one (ps_ret (pe_ifExp (pt_cmpR op_eq (pv 4) pe_int (nomark _)) (pe_tup (pa_cons pe_str pa_nil)) (pe_tup (pa_cons pe_str pa_nil))))) pss_nil)
      (pss_cons (ps_if (pt_cmpR op_lt (pv 4) pe_int (nomark _)) (pss_one (ps_ret (pe_tup (pa_cons (pe_ifExp (pt_cmpR op_eq (pv 4) pe_int (nomark _)) pe_str pe_str) (pa_cons (pe_c c__law_one hr (by omega) rfl (pa_cons (pv 0) (pa_cons (pe_ix ix_tup (pv 1) (pe_op op_sub (pv 4) pe_int) (fun _ _ => rfl)) pa_nil))) pa_nil))))) pss_nil)
      (pss_cons (ps_set (i := 5) sc__law_step.nd rfl (by first | exact Or.inl rfl | exact Or.inr rfl) (pe_lst pa_nil))
      (pss_cons (ps_for PassesOwn.never rfl (pi_range1 rfl T.b_range (pa_cons (pe_op op_add pe_int (pe_c c__law_draw hr (by omega) rfl (pa_cons (pv 0) (pa_cons pe_int pa_nil)))) pa_nil)) (pg_name (i := 6) sc__law_step.nd rfl (by first | exact Or.inl rfl | exact Or.inr rfl)) (pss_one (ps_expr (pe_bm PySem.F.plainAttrs_list PySem.F.slot_list_append PySem.F.type_list_append mt_append (pv 5) (pa_cons (pe_c c__law_body hr (by omega) rfl (pa_cons (pv 0) (pa_cons (pv 1) (pa_cons (pv 2) (pa_cons (pe_op op_sub (pv 3) pe_int) pa_nil))))) pa_nil)))))
      (pss_cons (ps_if (pt_cmpR op_eq (pv 4) pe_int (nomark _)) (pss_one (ps_ret (pe_tup (pa_cons pe_str (pa_cons (pe_c c__law_one hr (by omega) rfl (pa_cons (pv 0) (pa_cons (pe_ix ix_tup (pv 1) pe_int (fun _ _ => rfl)) pa_nil))) (pa_cons (pe_ix ix_list (pv 5) pe_int (fun _ _ => rfl)) (pa_cons (pe_ix ix_list (pv 5) pe_int (fun _ _ => rfl)) pa_nil))))))) pss_nil)
      (pss_cons (ps_if (pt_cmpR op_eq (pv 4) pe_int (nomark _)) (pss_one (ps_ret (pe_tup (pa_cons pe_str (pa_cons (pe_ix ix_list (pv 5) pe_int (fun _ _ => rfl)) (pa_cons (pe_ix ix_list (pv 5) pe_int (fun _ _ => rfl)) pa_nil)))))) pss_nil)
      (pss_one (ps_ret (pe_ifExp (pt_cmpR op_eq (pv 4) pe_int (nomark _)) (pe_tup (pa_cons pe_str (pa_cons (pe_ix ix_list (pv 5) pe_int (fun _ _ => rfl)) pa_nil))) (pe_tup (pa_cons pe_str (pa_cons (pe_callTy call_tuple_of (by rfl) T.b_tuple (by decide +kernel) (pa_cons (pv 5) pa_nil)) pa_nil))))))))))))))), ?_⟩
    -- kind
    refine ⟨fun σ' H' => ∃ (kd : Int), σ' = [some (.ref b), some (.ref w0), some (.ref r), some (.int (d : Nat)), some (.int kd), none, none] ∧ 0 ≤ kd ∧ kd < 16 ∧ (d = 0 → kd < 12) ∧ Upto b H H' ∧ BagAt H' b, ?_, ?_⟩
    · refine ⟨_, rfl, _, rfl, _, _, rfl, rfl, _, rfl, ?_⟩
      refine ite2 (fun h1 => ?_) (fun h1 => ?_)
      · have h1 := of_decide_eq_true h1
        exact ⟨b, 16, rfl, B, by decide, lt9000 (by decide) (by decide), fun kd H1 k0 k1 u1 B1 => ⟨kd, rfl, k0, k1, fun e => by omega, u1, B1⟩⟩
      · exact ⟨b, 12, rfl, B, by decide, lt9000 (by decide) (by decide), fun kd H1 k0 k1 u1 B1 => ⟨kd, rfl, k0, by omega, fun e => k1, u1, B1⟩⟩
    rintro σ H1 ⟨kd, rfl, k0, k1, kz, u1, B1⟩
    have R1 : RoomAt H1 r R := u1 _ _ hrb hR
    obtain ⟨zs1, hb3'⟩ := B1.lst
    have hW1 := hW.stay hR B (Up2.of u1)
    obtain ⟨p0, p1, p2, n0, n1, n2, hT, e0, e1, e2, f0, f1, f2, h0, h1, h2, o0, o1, o2, l0, l1, l2⟩ := hW1.ne R1
    have done : ∀ {xs : List V} {ds : List PyData} {s : Stp} {H2 : Hp}, Upto b H1 H2 → BagAt H2 b → okSt (okK d) s → wtS s ≤ 4 → datS s = .tuple ds → (∀ H', DtAll K H' xs ds) → ∀ q, H2 q = none → Q (.ref q) (upd H2 q (.tup xs)) :=
      fun {xs ds s H2} u B2 so wt e D q nq => k _ s R _ so (e ▸ .tup (SqT.of upd_same) (D _)) (by omega) ((Same.new nq) _ _ (u _ _ hrb R1)) (up2_updF (Up2.of (u1.trans u)) nq) (B2.upd (bagNe B2 nq))
    have sT : ∀ {H' : Hp}, Same H1 H' → SqT K H' w0 [.ref p0, .ref p1, .ref p2, .ref p2] := fun s => (TStay.of s).sq hT
    -- kind < 6
    refine ⟨_, rfl, _, _, rfl, rfl, _, rfl, ?_⟩
    refine ite2 (fun h6 => ?_) (fun h6 => ?_)
    · have h6 := of_decide_eq_true h6
      obtain ⟨v, hv, hm⟩ := atI_some (xs := [V.str "keep", V.str "set", V.str "keep", V.str "set", V.str "read", V.str "look"]) k0 h6
      obtain ⟨wd, rfl, hw⟩ : ∃ wd, v = .str (S wd) ∧ inV (.str (S wd)) withV = true := by
        have := List.all_eq_true.mp (show List.all _ (fun v => match v with | .str x => inV (.str x) withV | _ => false) = true by decide +kernel) v hm
        cases v with
        | str x => exact ⟨x.cps.toList, by rw [S_tl], by rw [S_tl]; exact this⟩
        | _ => cases this
      refine ⟨by decide, fun q1 nq1 => ⟨_, rfl, q1, _, kd, _, rfl, rfl, SqL.of upd_same, hv, ?_⟩⟩
      have s1 := Same.new (o := .lst [V.str "keep", V.str "set", V.str "keep", V.str "set", V.str "read", V.str "look"]) nq1
      refine ⟨_, rfl, _, rfl, w0, _, 0, _, rfl, rfl, sT s1, rfl, b, p0, _, rfl, B1.same s1, e0, s1 _ _ h0, by rw [txV_len]; omega, by rw [txV_len]; omega, fun v H2 hv u2 B2 => ?_⟩
      obtain ⟨a, ha, rfl⟩ := txV_mem hv
      exact ⟨sz (by simp), done (s := .word wd a) ((Upto.of s1).trans u2) B2 ⟨hw, o0 a ha⟩ (by simp [wtS]) rfl (fun _ => .cons (.str _) (.cons (.str _) .nil))⟩
    -- kind < 8
    refine ⟨_, rfl, _, _, rfl, rfl, _, rfl, ?_⟩
    refine ite2 (fun h8 => ?_) (fun h8 => ?_)
    · refine ⟨_, rfl, _, rfl, w0, _, 1, _, rfl, rfl, hT, rfl, b, p1, _, rfl, B1, e1, h1, by rw [txV_len]; omega, by rw [txV_len]; omega, fun v H2 hv u2 B2 => ?_⟩
      obtain ⟨a, ha, rfl⟩ := txV_mem hv
      exact ⟨sz (by simp), done (s := .word (kw "call") a) u2 B2 ⟨by decide +kernel, o1 a ha⟩ (by simp [wtS]) rfl (fun _ => .cons (.str _) (.cons (.str _) .nil))⟩
    have h6 : ¬ kd < 6 := fun e => h6 (decide_eq_true e)
    have h8 : ¬ kd < 8 := fun e => h8 (decide_eq_true e)
    -- kind < 10
    refine ⟨_, rfl, _, _, rfl, rfl, _, rfl, ?_⟩
    refine ite2 (fun h10 => ?_) (fun h10 => ?_)
    · refine ⟨_, rfl, rfl, _, rfl, ?_⟩
      refine ite2 (fun h9 => ?_) (fun h9 => ?_)
      · exact ⟨sz (by simp), done (s := .bare (kw "fail")) (Upto.refl _ _) B1 (.inr rfl) (by simp [wtS]) rfl (fun _ => .cons (.str _) .nil)⟩
      · exact ⟨sz (by simp), done (s := .bare (kw "super")) (Upto.refl _ _) B1 (.inl rfl) (by simp [wtS]) rfl (fun _ => .cons (.str _) .nil)⟩
    have h10 : ¬ kd < 10 := fun e => h10 (decide_eq_true e)
    refine ⟨_, rfl, _, _, rfl, rfl, _, rfl, ?_⟩
    refine ite2 (fun h12 => ?_) (fun h12 => ?_)
    · have h12' := of_decide_eq_true h12
      have hat : atI [V.ref p0, V.ref p1, V.ref p2, V.ref p2] (kd - 8) = some (.ref p2) := by
        have : kd = 10 ∨ kd = 11 := by omega
        rcases this with rfl | rfl <;> rfl
      refine ⟨_, rfl, _, rfl, _, _, rfl, rfl, w0, _, kd - 8, _, rfl, rfl, hT, hat, by decide, fun q nq => ?_⟩
      have s1 := Same.new (o := .lst []) nq
      have ac : ∀ a ∈ n2, Asc a := fun a ha => tok_asc (class_tok (o2 a ha))
      refine ⟨_, _, .lst (SqL.of (s1 _ _ h2)) (dp_txV _), .lst (SqL.of upd_same) .nil, shaped_strsD ac, rfl, _, rfl, ?_⟩
      have ev : PyData.eqv (.list (strsD n2)) (.list []) = false := by
        cases n2 with
        | nil => exact absurd l2.1 (by decide)
        | cons a n2 => rfl
      rw [ev]
      refine iteF ?_
      refine ⟨_, rfl, _, _, rfl, rfl, _, rfl, iteY h12' ?_⟩
      refine ⟨_, rfl, rfl, _, rfl, ?_⟩
      have fin : ∀ (wd : Str), inV (.str wd) classV = true → ∀ (v : V) (H2 : Hp), v ∈ txV n2 → Upto b (upd H1 q (.lst [])) H2 → BagAt H2 b → ∀ q, H2 q = none → Q (.ref q) (upd H2 q (.tup [.str wd, v])) := fun wd hwd v H2 hv u2 B2 => by
        obtain ⟨a, ha, rfl⟩ := txV_mem hv
        exact done (s := .cls (kw wd) a) ((Upto.of s1).trans u2) B2 ⟨by rw [S_kw]; exact hwd, o2 a ha⟩ (by simp [wtS]) (by rw [datS, S_kw]) (fun _ => .cons (.str _) (.cons (.str _) .nil))
      refine ite2 (fun h9 => ?_) (fun h9 => ?_)
      · refine ⟨_, rfl, _, rfl, _, rfl, _, _, rfl, rfl, w0, _, kd - 8, _, rfl, rfl, sT s1, hat, b, p2, _, rfl, B1.same s1, e2, s1 _ _ h2, by rw [txV_len]; omega, by rw [txV_len]; omega, fun v H2 hv u2 B2 => ⟨sz (by simp), fin "of" (by decide +kernel) v H2 hv u2 B2⟩⟩
      · refine ⟨_, rfl, _, rfl, _, rfl, _, _, rfl, rfl, w0, _, kd - 8, _, rfl, rfl, sT s1, hat, b, p2, _, rfl, B1.same s1, e2, s1 _ _ h2, by rw [txV_len]; omega, by rw [txV_len]; omega, fun v H2 hv u2 B2 => ⟨sz (by simp), fin "make" (by decide +kernel) v H2 hv u2 B2⟩⟩
    have h12 : ¬ kd < 12 := fun e => h12 (decide_eq_true e)
    refine ⟨_, rfl, _, _, rfl, rfl, _, rfl, iteN h12 ?_⟩
    obtain ⟨d', rfl⟩ : ∃ d', d = d' + 1 := ⟨d - 1, by have : ¬ d = 0 := fun e => h12 (kz e); omega⟩
    -- blocks = []
    refine ⟨by decide, fun g ng => ?_⟩
    have gb : g ≠ b := bagNe B1 ng
    have gr : g ≠ r := fun e => by
      subst e
      rw [RoomAt, ng] at R1
      cases R1
    have B2 : BagAt (upd H1 g (.lst [])) b := B1.upd gb
    refine ⟨_, rfl, b, 2, rfl, B2, by decide, lt9000 (by decide) (by decide), fun m H2 m0 m1 u2 B2 => ⟨_, _, rfl, rfl, _, rfl, by omega, by omega, ?_⟩⟩
    have U2 : Up2 b r H1 H2 := (Up2.ofS (Same.new ng)).trans (Up2.of u2)
    have R2 : RoomAt H2 r R := u2 _ _ hrb (by rw [upd_ne (Ne.symm gr)]; exact R1)
    have hg2 : H2 g = some (.lst []) := u2 _ _ gb upd_same
    refine for_it walk_range (fun i σ H3 => ∃ (vs : List V) (bs : List (List Stp)) (R3 : Nat) (v6 : Option V), σ = [some (.ref b), some (.ref w0), some (.ref r), some (.int ((d' + 1 : Nat) : Int)), some (.int kd), some (.ref g), v6] ∧ bs.length = i ∧ (∀ c ∈ bs, okK (d' + 1) c) ∧ DtAll K H3 vs (datL bs) ∧
      wtL bs + 4 * R3 ≤ 4 * R + i ∧ RoomAt H3 r R3 ∧ Up2 b r H1 H3 ∧ BagAt H3 b ∧ H3 g = some (.lst vs)) ⟨[], [], R, none, rfl, rfl, (fun _ h => absurd h (List.not_mem_nil)), .nil, by simp [wtL], R2, U2, B2, hg2⟩ (fun _ _ _ _ _ => trivial) ?_ ?_
    · rintro i x σ H3 H4 hi ⟨vs, bs, R3, v6, rfl, hlen, hok, hD, hwt, hR3, u3, B3, hg3⟩ ⟨rfl, rfl⟩
      have i4 : i < 4 := by omega
      refine ⟨_, rfl, .inl ⟨rfl, _, SqL.of hg3⟩, _, rfl, _, rfl, _, rfl, _, rfl, _, _, rfl, rfl, b, w0, r, R3, d', (by show [V.ref b, V.ref w0, V.ref r, V.int (((d' + 1 : Nat) : Int) - 1)] = _; rw [show ((d' + 1 : Nat) : Int) - 1 = (d' : Int) by omega]), by omega, B3, hrb, hR3, hW1.stay R1 B1 u3, fun v bd R4 H4 so sd sw hR4 u4 B4 => ?_⟩
      obtain ⟨zs, hb3⟩ := B3.lst
      have ts4 := TStay.two hb3 hR3 u4
      have hg4 := u4 _ _ gb gr hg3
      have ts5 := TStay.lst (o := .lst (vs ++ [v])) hg4
      refine ⟨g, _, _, rfl, rfl, hg4, by rw [dtAll_len hD, datL_len]; exact Nat.lt_of_le_of_lt (by omega : bs.length ≤ 100) (by decide), ?_⟩
      refine ⟨vs ++ [v], bs ++ [bd], R4, _, rfl, by simp [hlen], fun t ht => (List.mem_append.mp ht).elim (hok t) (fun h => by cases List.mem_singleton.mp h; exact so), ?_, by rw [wtL_snoc]; omega, by rw [RoomAt, upd_ne (Ne.symm gr)]; exact hR4, ?_, B4.upd gb, upd_same⟩
      · rw [datL_snoc]
        exact dtAll_snoc (dtAll_stay (TStay.trans ts4 ts5) _ _ hD) (dt_stay ts5 _ _ sd)
      · exact (u3.trans u4).upd ng
    · rintro σ H3 ⟨vs, bs, R3, v6, rfl, hlen, hok, hD, hwt, hR3, u3, B3, hg3⟩
      have R3' : ∀ {q : Addr}, H3 q = none → q ≠ r := fun {q} nq e => by
        subst e
        rw [RoomAt, nq] at hR3
        cases hR3
      have U3 : Up2 b r H H3 := (Up2.of u1).trans u3
      have hl2 : 2 ≤ bs.length := by omega
      have hl3 : bs.length ≤ 3 := by omega
      match bs, vs, hD, hl2 with
      | ba :: bb :: bs, va :: vb :: vs, .cons D1 (.cons D2 D3), _ =>
        have ba_ok := hok ba (by simp)
        have bb_ok := hok bb (by simp)
        have hwt' : wtB ba + wtB bb + wtL bs + 2 + 4 * R3 ≤ 4 * R + 3 := by
          simp only [wtL] at hwt
          omega
        obtain ⟨zs, hb3⟩ := B3.lst
        have fin : ∀ {H4 H5 : Hp} (xs : List V) (ds : List PyData) (s : Stp), Upto b H3 H4 → BagAt H4 b → Same H4 H5 → okSt (okK (d' + 1)) s → wtS s ≤ wtB ba + wtB bb + wtL bs + 3 → datS s = .tuple ds → DtAll K H5 xs ds → ∀ q, H5 q = none → Q (.ref q) (upd H5 q (.tup xs)) :=
          fun {H4 H5} xs ds s u4 B4 s5 so wt e D q nq => k _ s R3 _ so (e ▸ .tup (SqT.of upd_same) (dtAll_stay (TStay.of (Same.new nq)) _ _ D)) (by omega) ((s5.trans (Same.new nq)) _ _ (u4 _ _ hrb hR3)) (up2_updF ((U3.trans (Up2.of u4)).trans (Up2.ofS s5)) nq) ((B4.same s5).upd (bagNe (B4.same s5) nq))
        refine ⟨_, rfl, rfl, _, rfl, ?_⟩
        refine ite2 (fun q12 => ?_) (fun q12 => ?_)
        · refine ⟨_, rfl, _, rfl, w0, _, 0, _, rfl, rfl, (TStay.two hb3' R1 u3).sq hT, rfl, b, p0, _, rfl, B3, e0, u3 _ _ e0 f0 h0, by rw [txV_len]; omega, by rw [txV_len]; omega, fun v H4 hv u4 B4 => ?_⟩
          obtain ⟨a, ha, rfl⟩ := txV_mem hv
          have hg4 := u4 _ _ gb hg3
          have ts := TStay.two hb3 hR3 (Up2.of u4)
          refine ⟨_, rfl, g, _, 0, _, rfl, rfl, SqL.of hg4, atI_nat (j := 0) rfl, _, rfl, g, _, 1, _, rfl, rfl, SqL.of hg4, atI_nat (j := 1) rfl, sz (by simp), ?_⟩
          exact fin _ _ (.iff a ba bb) u4 B4 (Same.refl _) ⟨o0 a ha, ba_ok, bb_ok⟩ (by simp [wtS]; omega) rfl (.cons (.str _) (.cons (.str _) (.cons (dt_stay ts _ _ D1) (.cons (dt_stay ts _ _ D2) .nil))))
        refine ⟨_, rfl, rfl, _, rfl, ?_⟩
        refine ite2 (fun q13 => ?_) (fun q13 => ?_)
        · refine ⟨_, rfl, g, _, 0, _, rfl, rfl, SqL.of hg3, atI_nat (j := 0) rfl, _, rfl, g, _, 1, _, rfl, rfl, SqL.of hg3, atI_nat (j := 1) rfl, sz (by simp), ?_⟩
          exact fin _ _ (.tr ba bb) (Upto.refl _ _) B3 (Same.refl _) ⟨ba_ok, bb_ok⟩ (by simp [wtS]; omega) rfl (.cons (.str _) (.cons D1 (.cons D2 .nil)))
        refine ⟨_, rfl, rfl, _, rfl, ?_⟩
        refine ite2 (fun q14 => ?_) (fun q14 => ?_)
        · refine ⟨_, rfl, g, _, 0, _, rfl, rfl, SqL.of hg3, atI_nat (j := 0) rfl, sz (by simp), ?_⟩
          exact fin _ _ (.loop ba) (Upto.refl _ _) B3 (Same.refl _) ba_ok (by simp [wtS]; omega) rfl (.cons (.str _) (.cons D1 .nil))
        · refine ⟨_, rfl, g, _, rfl, .inl ⟨SqL.of hg3, fun q nq => ⟨sz (by simp), ?_⟩⟩⟩
          have st := Same.new (o := .tup (va :: vb :: vs)) nq
          exact fin _ _ (.ei (ba :: bb :: bs)) (Upto.refl _ _) B3 st ⟨by simp, hok⟩ (by simp [wtS, wtL]; omega) rfl (.cons (.str _) (.cons (.tup (SqT.of upd_same) (dtAll_stay (TStay.of st) _ _ (.cons D1 (.cons D2 D3)))) .nil))
theorem law_bodies (T : Txt K mg Z) : ∀ n, Cal P w K mg base (2 * n + 2) "_law_body" (spLBody K n) []
  | 0 => by
    exact c__law_body0 T
  | n + 1 => c__law_body T (by omega) (c__law_step T (by omega) (law_bodies T n))
end

/-! ### 9. the law's towers -/
section
variable {K : PySem.W.Frag} {H : Hp}
theorem dtAll_app : ∀ {vs us : List V} {ds es : List PyData}, DtAll K H vs ds → DtAll K H us es → DtAll K H (vs ++ us) (ds ++ es)
  | [], _, _, _, .nil, h => h
  | _ :: _, _, _, _, .cons a b, h => .cons a (dtAll_app b h)
theorem datL_app : ∀ (b c : List (List Stp)), datL (b ++ c) = datL b ++ datL c
  | [], _ => rfl
  | t :: b, c => congrArg (PyData.tuple (datB t) :: ·) (datL_app b c)
theorem wtL_app : ∀ (b c : List (List Stp)), wtL (b ++ c) = wtL b + wtL c
  | [], c => by simp [wtL]
  | t :: b, c => by
    show 1 + wtB t + wtL (b ++ c) = 1 + wtB t + wtL b + wtL c
    rw [wtL_app b c]
    omega
theorem dtAll_rep {v : V} {b : List Stp} (h : Dt K H v (.tuple (datB b))) : ∀ n, DtAll K H (List.replicate n v) (datL (List.replicate n b))
  | 0 => .nil
  | n + 1 => .cons h (dtAll_rep h n)
theorem wtL_rep (b : List Stp) : ∀ n, wtL (List.replicate n b) = n * (1 + wtB b)
  | 0 => by simp [wtL]
  | n + 1 => by
    show 1 + wtB b + wtL (List.replicate n b) = _
    rw [wtL_rep b n, Nat.succ_mul]
    omega
theorem flat_rep {v : V} : ∀ n, (List.replicate n [v]).flatten = List.replicate n v
  | 0 => rfl
  | n + 1 => congrArg (v :: ·) (flat_rep n)
theorem Dt.refd {v : V} {ds : List PyData} (h : Dt K H v (.tuple ds)) : ∃ a, v = .ref a := by
  cases h with
  | tup _ _ => exact ⟨_, rfl⟩
mutual
def ndS : Stp → Nat
  | .word _ _ => 0
  | .cls _ _ => 0
  | .bare _ => 0
  | .loop b => ndB b + 1
  | .iff _ a b => max (ndB a) (ndB b) + 1
  | .tr a b => max (ndB a) (ndB b) + 1
  | .ei bs => ndL bs + 1
def ndB : List Stp → Nat
  | [] => 0
  | s :: b => max (ndS s) (ndB b)
def ndL : List (List Stp) → Nat
  | [] => 0
  | b :: bs => max (ndB b) (ndL bs)
end
theorem ndL_mem : ∀ {bs : List (List Stp)} {b : List Stp}, b ∈ bs → ndB b ≤ ndL bs
  | c :: bs, b, h => by
    rw [ndL]
    rcases List.mem_cons.mp h with rfl | h
    · exact Nat.le_max_left _ _
    · exact Nat.le_trans (ndL_mem h) (Nat.le_max_right _ _)
def failB : List Stp := [.bare (kw "fail")]
theorem fail_ok (n : Nat) : okK (n + 1) failB := fun s hs => by
  cases List.mem_singleton.mp hs
  exact .inr rfl
theorem nil_ok (n : Nat) : okK (n + 1) [] := fun s hs => absurd hs (List.not_mem_nil)
def spTower (K : PySem.W.Frag) : Sp := fun vs H Q _ => ∃ (b p0 : Addr) (v : V) (m k0 : Nat) (bd : List Stp) (n0 : List (List Nat)), vs = [.ref b, .ref p0, v, .int (m : Nat)] ∧ m ≤ 7 ∧ BagAt H b ∧ p0 ≠ b ∧ H p0 = some (.lst (txV n0)) ∧ okWs wordL n0 ∧ (1 ≤ n0.length ∧ n0.length ≤ 12) ∧
  okK (k0 + 1) bd ∧ Dt K H v (.tuple (datB bd)) ∧
  ∀ (v' : V) (bd' : List Stp) H', okK (k0 + 1 + m) bd' → Dt K H' v' (.tuple (datB bd')) → wtB bd' ≤ wtB bd + 10 * m → ndB bd + m ≤ ndB bd' → Upto b H H' → BagAt H' b → Q v' H'
end
section
variable {P : Program} {w : World} {K : PySem.W.Frag} {mg : Str → Option Value} {base : Heap} {Z : Addrs}
theorem TStay.bag {H H' : Hp} {b : Addr} (B : BagAt H b) (u : Upto b H H') : TStay H H' := by
  obtain ⟨xs, hb⟩ := B.lst
  exact TStay.two hb hb (Up2.of u)
theorem none_upto {b p : Addr} {H H1 : Hp} (u : Upto b H H1) (h : H1 p = none) (n : p ≠ b) : H p = none := by
  cases e : H p with
  | none => rfl
  | some o =>
    rw [u _ _ n e] at h
    cases h
theorem upto_new {b p : Addr} {H H1 : Hp} {o : HO} (u : Upto b H H1) (h : H1 p = none) : Upto b H (upd H1 p o) := u.trans (Upto.new h)
theorem c__law_tower (T : Txt K mg Z) : Cal P w K mg base 3 "_law_tower" (spTower K) [] := by
  have c__law_draw : Cal P w K mg base 1 "_law_draw" spDraw [] := c__law_draw T
  have c__law_one : Cal P w K mg base 2 "_law_one" (spOne K) [] := c__law_one T
  refine cal_of T.d__law_tower sc__law_tower (fun vs H Q E h => ?_) (fun f cdv A outer s H vs Q E hr h => ?_)
  · obtain ⟨b, p0, v, m, k0, bd, n0, rfl, _⟩ := h
    rfl
  · obtain ⟨b, p0, v, m, k0, bd, n0, rfl, hm, B, hp0, h0, o0, l0, hok, D, k⟩ := h
    refine ⟨_, (pss_cons (ps_for PassesOwn.never rfl (pi_range1 rfl T.b_range (pa_cons (pv 3) pa_nil)) (pg_name (i := 4) sc__law_tower.nd rfl (by first | exact Or.inl rfl | exact Or.inr rfl)) (pss_cons (ps_par (i := 5) (j := 6) (by rfl) sc__law_tower.nd rfl rfl (by decide) rfl rfl (pa_cons (pe_c c__law_draw hr (by omega) rfl (pa_cons (pv 0) (pa_cons pe_int pa_nil))) (pa_cons (pe_lst (pa_cons (pv 2) (pa_cons (pe_tup pa_nil) pa_nil))) pa_nil)) (by rfl))
      (C8.pss_cut (ps_if (pt_cmpR op_eq (pe_c c__law_draw hr (by omega) rfl (pa_cons (pv 0) (pa_cons pe_int pa_nil))) pe_int (nomark _)) (pss_one (ps_set (i := 6) sc__law_tower.nd rfl (by first | exact Or.inl rfl | exact Or.inr rfl) (pe_lst (pa_cons (pe_tup pa_nil) (pa_cons (pv 2) pa_nil))))) pss_nil)
      (C8.pss_cut (ps_if (pt_cmpR op_eq (pv 5) pe_int (nomark _)) (pss_one (ps_set (i := 7) sc__law_tower.nd rfl (by first | exact Or.inl rfl | exact Or.inr rfl) (pe_tup (pa_cons pe_str (pa_cons (pv 2) pa_nil))))) (pss_one (ps_if (pt_cmpR op_eq (pv 5) pe_int (nomark _)) (pss_one (ps_set (i := 7) sc__law_tower.nd rfl (by first | exact Or.inl rfl | exact Or.inr rfl) (pe_tup (pa_cons pe_str (pa_cons (pe_ix ix_list (pv 6) pe_int (fun _ _ => rfl)) (pa_cons (pe_ix ix_list (pv 6) pe_int (fun _ _ => rfl)) pa_nil)))))) (pss_one (ps_if (pt_cmpR op_eq (pv 5) pe_int (nomark _)) (pss_one (ps_set (i := 7) sc__law_tower.nd rfl (by first | exact Or.inl rfl | exact Or.inr rfl) (pe_tup (pa_cons pe_str (pa_cons (pe_c c__law_one hr (by omega) rfl (pa_cons (pv 0) (pa_cons (pv 1) pa_nil))) (pa_cons (pe_ix ix_list (pv 6) pe_int (fun _ _ => rfl)) (pa_cons (pe_ix ix_list (pv 6) pe_int (fun _ _ => rfl)) pa_nil))))))) (pss_cons (ps_set (i := 8) sc__law_tower.nd rfl (by first | exact Or.inl rfl | exact Or.inr rfl) (pe_op op_rep (pe_lst (pa_cons (pe_tup (pa_cons (pe_tup (pa_cons pe_str pa_nil)) pa_nil)) pa_nil)) (pe_op op_add pe_int (pe_c c__law_draw hr (by omega) rfl (pa_cons (pv 0) (pa_cons pe_int pa_nil))))))
      (pss_cons (ps_expr (pe_bm PySem.F.plainAttrs_list PySem.F.slot_list_insert PySem.F.type_list_insert mt_insert (pv 8) (pa_cons (pe_c c__law_draw hr (by omega) rfl (pa_cons (pv 0) (pa_cons (pe_op op_add (pe_callB call_len_seq (by rfl) T.b_len (by decide +kernel) (pa_cons (pv 8) pa_nil)) pe_int) pa_nil))) (pa_cons (pv 2) pa_nil))))
      (pss_one (ps_set (i := 7) sc__law_tower.nd rfl (by first | exact Or.inl rfl | exact Or.inr rfl) (pe_tup (pa_cons pe_str (pa_cons (pe_callTy call_tuple_of (by rfl) T.b_tuple (by decide +kernel) (pa_cons (pv 8) pa_nil)) pa_nil))))))))))))
      (pss_one (ps_set (i := 2) sc__law_tower.nd rfl (by first | exact Or.inl rfl | exact Or.inr rfl) (pe_op op_catT (pe_tup (pa_cons (pv 7) pa_nil)) (pe_op op_rep01 (pe_tup (pa_cons (pe_tup (pa_cons pe_str pa_nil)) pa_nil)) (pe_c c__law_draw hr (by omega) rfl (pa_cons (pv 0) (pa_cons pe_int pa_nil)))))))))))
      (pss_one (ps_ret (pv 2)))), ?_⟩
    refine ⟨_, rfl, _, rfl, by omega, by omega, ?_⟩
    refine for_it walk_range (fun i σ H1 => ∃ (v1 : V) (b1 : List Stp) (x4 x5 x6 x7 x8 : Option V), σ = [some (.ref b), some (.ref p0), some v1, some (.int (m : Nat)), x4, x5, x6, x7, x8] ∧ okK (k0 + 1 + i) b1 ∧ Dt K H1 v1 (.tuple (datB b1)) ∧ wtB b1 ≤ wtB bd + 10 * i ∧ ndB bd + i ≤ ndB b1 ∧ Upto b H H1 ∧ BagAt H1 b)
      ⟨v, bd, none, none, none, none, none, rfl, hok, D, by omega, by omega, Upto.refl _ _, B⟩ (fun _ _ _ _ _ => trivial) ?_ ?_
    · rintro i x σ H0 H1 hi ⟨v1, b1, x4, x5, x6, x7, x8, rfl, ok1, D1, wt1, nd1, u1, B1⟩ ⟨rfl, rfl⟩
      have st1 : ∀ {H' : Hp}, Upto b H1 H' → H' p0 = some (.lst (txV n0)) := fun u => u _ _ hp0 (u1 _ _ hp0 h0)
      -- kind, pair
      refine ⟨_, rfl, b, 5, rfl, B1, by decide, lt9000 (by decide) (by decide), fun kd H3 k0' k1' u3 B3 => ?_⟩
      refine ⟨_, rfl, sz (by simp), fun e ne => ⟨sz (by simp), fun g ng => ⟨_, _, rfl, ?_⟩⟩⟩
      have s4 := (Same.new (o := .tup []) ne).trans (Same.new (o := .lst [v1, .ref e]) ng)
      have D4 : Dt K (upd (upd H3 e (.tup [])) g (.lst [v1, .ref e])) v1 (.tuple (datB b1)) := dt_stay ((TStay.bag B1 u3).trans (TStay.of s4)) _ _ D1
      have E4 : Dt K (upd (upd H3 e (.tup [])) g (.lst [v1, .ref e])) (.ref e) (.tuple (datB [])) := .tup (SqT.of ((Same.new ng) _ _ upd_same)) .nil
      have B4 : BagAt (upd (upd H3 e (.tup [])) g (.lst [v1, .ref e])) b := B3.same s4
      -- if draw: pair turned
      refine ⟨fun σ' H' => ∃ (g : Addr) (x y : V) (bx bb : List Stp), σ' = [some (.ref b), some (.ref p0), some v1, some (.int (m : Nat)), some (.int (0 + (i : Int))), some (.int kd), some (.ref g), x7, x8] ∧ g ≠ b ∧ H' g = some (.lst [x, y]) ∧ Dt K H' x (.tuple (datB bx)) ∧ Dt K H' y (.tuple (datB bb)) ∧
        okK (k0 + 1 + i) bx ∧ okK (k0 + 1 + i) bb ∧ wtB bx + wtB bb = wtB b1 ∧ ndB b1 ≤ max (ndB bx) (ndB bb) ∧ Upto b H1 H' ∧ BagAt H' b ∧ Dt K H' v1 (.tuple (datB b1)), ?_, ?_⟩
      · refine ⟨_, rfl, b, 2, rfl, B4, by decide, lt9000 (by decide) (by decide), fun c H5 c0 c1 u5 B5 => ⟨rfl, _, rfl, ?_⟩⟩
        have D5 := dt_stay (TStay.bag B4 u5) _ _ D4
        have E5 := dt_stay (TStay.bag B4 u5) _ _ E4
        have nil_ok' : okK (k0 + 1 + i) [] := by rw [show k0 + 1 + i = (k0 + i) + 1 by omega]; exact nil_ok _
        refine ite2 (fun h1 => ?_) (fun h1 => ?_)
        · refine ⟨sz (by simp), fun e2 ne2 => ⟨_, rfl, sz (by simp), fun g2 ng2 => ?_⟩⟩
          have s6 := (Same.new (o := .tup []) ne2).trans (Same.new (o := .lst [.ref e2, v1]) ng2)
          exact ⟨g2, _, _, [], b1, rfl, bagNe (B5.same (Same.new ne2)) ng2, upd_same, .tup (SqT.of ((Same.new ng2) _ _ upd_same)) .nil, dt_stay (TStay.of s6) _ _ D5, nil_ok', ok1, by simp [wtB], Nat.le_max_right _ _, u3.trans ((Upto.of s4).trans (u5.trans (Upto.of s6))), B5.same s6, dt_stay (TStay.of s6) _ _ D5⟩
        · refine ⟨g, _, _, b1, [], rfl, bagNe (B3.same (Same.new ne)) ng, u5 _ _ (bagNe (B3.same (Same.new ne)) ng) upd_same, D5, E5, ok1, nil_ok', by simp [wtB], Nat.le_max_left _ _, u3.trans ((Upto.of s4).trans u5), B5, D5⟩
      rintro σ H5 ⟨g, x, y, bx, bb, rfl, gb, hg5, Dx, Dy, okx, oky, wxy, nxy, u5, B5, D5⟩
      -- step
      refine ⟨fun σ' H' => ∃ (vs : V) (s : Stp) (x8 : Option V), σ' = [some (.ref b), some (.ref p0), some v1, some (.int (m : Nat)), some (.int (0 + (i : Int))), some (.int kd), some (.ref g), some vs, x8] ∧ Dt K H' vs (datS s) ∧ okSt (okK (k0 + 1 + i)) s ∧ wtS s ≤ wtB b1 + 9 ∧ ndB b1 + 1 ≤ ndS s ∧ Upto b H1 H' ∧ BagAt H' b, ?_, ?_⟩
      · have sup : ∀ {H7 : Hp} {xs : List V} {ds : List PyData} {s : Stp} {y8 : Option V}, Upto b H1 H7 → BagAt H7 b → DtAll K H7 xs ds → datS s = .tuple ds → okSt (okK (k0 + 1 + i)) s → wtS s ≤ wtB b1 + 9 → ndB b1 + 1 ≤ ndS s → ∀ q, H7 q = none →
            ∃ (vs : V) (s : Stp) (z8 : Option V), [some (.ref b), some (.ref p0), some v1, some (.int (m : Nat)), some (.int (0 + (i : Int))), some (.int kd), some (.ref g), some (V.ref q), y8] = [some (.ref b), some (.ref p0), some v1, some (.int (m : Nat)), some (.int (0 + (i : Int))), some (.int kd), some (.ref g), some vs, z8] ∧ Dt K (upd H7 q (.tup xs)) vs (datS s) ∧ okSt (okK (k0 + 1 + i)) s ∧ wtS s ≤ wtB b1 + 9 ∧ ndB b1 + 1 ≤ ndS s ∧ Upto b H1 (upd H7 q (.tup xs)) ∧ BagAt (upd H7 q (.tup xs)) b :=
          fun {H7 xs ds s y8} u B D e o w nd q nq => ⟨.ref q, s, y8, rfl, e ▸ .tup (SqT.of upd_same) (dtAll_stay (TStay.of (Same.new nq)) _ _ D), o, w, nd, upto_new u nq, B.upd (bagNe B nq)⟩
        refine ⟨_, rfl, rfl, _, rfl, ?_⟩
        refine ite2 (fun _ => ?_) (fun _ => ?_)
        · refine ⟨_, rfl, sz (by simp), ?_⟩
          exact sup (s := .loop b1) u5 B5 (.cons (.str _) (.cons D5 .nil)) rfl ok1 (by simp [wtS]; omega) (by rw [ndS]; omega)
        refine ⟨_, rfl, rfl, _, rfl, ?_⟩
        refine ite2 (fun _ => ?_) (fun _ => ?_)
        · refine ⟨_, rfl, g, _, 0, _, rfl, rfl, SqL.of hg5, atI_nat (j := 0) rfl, _, rfl, g, _, 1, _, rfl, rfl, SqL.of hg5, atI_nat (j := 1) rfl, sz (by simp), ?_⟩
          exact sup (s := .tr bx bb) u5 B5 (.cons (.str _) (.cons Dx (.cons Dy .nil))) rfl ⟨okx, oky⟩ (by simp [wtS]; omega) (by rw [ndS]; omega)
        refine ⟨_, rfl, rfl, _, rfl, ?_⟩
        refine ite2 (fun _ => ?_) (fun _ => ?_)
        · refine ⟨_, rfl, _, rfl, b, p0, _, rfl, B5, hp0, st1 u5, by rw [txV_len]; omega, by rw [txV_len]; omega, fun v H7 hv u7 B7 => ?_⟩
          obtain ⟨a, ha, rfl⟩ := txV_mem hv
          have ts := TStay.bag B5 u7
          have hg7 := u7 _ _ gb hg5
          refine ⟨_, rfl, g, _, 0, _, rfl, rfl, SqL.of hg7, atI_nat (j := 0) rfl, _, rfl, g, _, 1, _, rfl, rfl, SqL.of hg7, atI_nat (j := 1) rfl, sz (by simp), ?_⟩
          exact sup (s := .iff a bx bb) (u5.trans u7) B7 (.cons (.str _) (.cons (.str _) (.cons (dt_stay ts _ _ Dx) (.cons (dt_stay ts _ _ Dy) .nil)))) rfl ⟨o0 a ha, okx, oky⟩ (by simp [wtS]; omega) (by rw [ndS]; omega)
        refine ⟨sz (by simp), fun q1 n1 => ⟨sz (by simp), fun q2 n2 => ⟨sz (by simp), fun q3 n3 => ?_⟩⟩⟩
        have s3 := (Same.new (o := .tup [V.str "fail"]) n1).trans ((Same.new (o := .tup [V.ref q1]) n2).trans (Same.new (o := .lst [V.ref q2]) n3))
        have F3 : Dt K (upd (upd (upd H5 q1 (.tup [V.str "fail"])) q2 (.tup [V.ref q1])) q3 (.lst [V.ref q2])) (.ref q2) (.tuple (datB failB)) :=
          .tup (SqT.of ((Same.new n3) _ _ upd_same)) (.cons (.tup (SqT.of ((Same.new n2).trans (Same.new n3) _ _ upd_same)) (.cons (.str _) .nil)) .nil)
        refine ⟨_, rfl, b, 3, rfl, B5.same s3, by decide, lt9000 (by decide) (by decide), fun c H7 c0 c1 u7 B7 => ⟨_, _, rfl, rfl, q3, 1 + c, _, rfl, rfl, u7 _ _ (bagNe (B5.same ((Same.new n1).trans (Same.new n2))) n3) upd_same, by omega, by omega, ?_, fun q4 n4 => ?_⟩⟩
        · refine Nat.le_trans (by simp; omega : [V.ref q2].length * (1 + c).toNat ≤ 100) (by decide)
        rw [flat_rep]
        generalize hj : (1 + c).toNat = j
        have hj1 : 1 ≤ j ∧ j ≤ 3 := by omega
        have s8 := Same.new (o := .lst (List.replicate j (V.ref q2))) n4
        have B8 := B7.same s8
        have q4b : q4 ≠ b := bagNe B7 n4
        refine ⟨_, rfl, .inl ⟨rfl, _, SqL.of upd_same⟩, _, rfl, _, rfl, q4, _, rfl, .inl (SqL.of upd_same), _, _, rfl, rfl, b, _, rfl, B8, by omega, lt9000 (by omega) (by simp; omega), fun x H9 x0 x1 u9 B9 => ?_⟩
        have h9 := u9 _ _ q4b upd_same
        have F9 := dt_stay (((TStay.bag (B5.same s3) u7).trans (TStay.of s8)).trans (TStay.bag B8 u9)) _ _ F3
        have D9 := dt_stay (((TStay.of s3).trans (TStay.bag (B5.same s3) u7)).trans ((TStay.of s8).trans (TStay.bag B8 u9))) _ _ D5
        rw [List.length_replicate] at x1
        refine ⟨_, rfl, q4, _, x, v1, rfl, rfl, h9, by rw [List.length_replicate]; exact Nat.lt_of_le_of_lt hj1.2 (by decide), x0, by omega, ?_⟩
        have ts10 := TStay.lst (o := .lst (List.take x.toNat (List.replicate j (V.ref q2)) ++ [v1] ++ List.drop x.toNat (List.replicate j (V.ref q2)))) h9
        refine ⟨_, rfl, q4, _, rfl, .inl ⟨SqL.of upd_same, fun q5 n5 => ⟨sz (by simp), ?_⟩⟩⟩
        have s11 := Same.new (o := .tup (List.take x.toNat (List.replicate j (V.ref q2)) ++ [v1] ++ List.drop x.toNat (List.replicate j (V.ref q2)))) n5
        rw [List.take_replicate, List.drop_replicate] at *
        have F11 := dt_stay (TStay.trans ts10 (TStay.of s11)) _ _ F9
        have D11 := dt_stay (TStay.trans ts10 (TStay.of s11)) _ _ D9
        generalize ha : min x.toNat j = ja at *
        generalize hb : j - x.toNat = jb at *
        have hab : ja + jb ≤ 3 ∧ 1 ≤ ja + jb := by omega
        have nk : k0 + 1 + i = (k0 + i) + 1 := by omega
        refine sup (s := .ei (List.replicate ja failB ++ [b1] ++ List.replicate jb failB)) ((Upto.upd (((u5.trans (Upto.of s3)).trans (u7.trans (Upto.of s8))).trans u9) (none_upto ((u5.trans (Upto.of s3)).trans u7) n4 q4b)).trans (Upto.of s11)) ((B9.upd q4b).same s11) (.cons (.str _) (.cons (.tup (SqT.of upd_same) ?_) .nil)) rfl ⟨?_, ?_⟩ ?_ (by rw [ndS]; exact Nat.succ_le_succ (ndL_mem (by simp)))
        · rw [datL_app, datL_app]
          exact dtAll_app (dtAll_app (dtAll_rep F11 ja) (.cons D11 .nil)) (dtAll_rep F11 jb)
        · simp
          omega
        · intro y hy
          simp only [List.mem_append, List.mem_replicate, List.mem_singleton] at hy
          rcases hy with (⟨_, rfl⟩ | rfl) | ⟨_, rfl⟩
          · rw [nk]
            exact fail_ok _
          · exact ok1
          · rw [nk]
            exact fail_ok _
        · rw [wtS, wtL_app, wtL_app, wtL_rep, wtL_rep]
          have : wtB failB = 1 := by simp [failB, wtB, wtS]
          rw [this]
          simp [wtL]
          omega
      rintro σ H6 ⟨vs, s, x8, rfl, Ds, oks, ws, nds, u6, B6⟩
      refine ⟨_, rfl, sz (by simp), fun q1 n1 => ⟨sz (by simp), fun q2 n2 => ⟨sz (by simp), fun q3 n3 => ?_⟩⟩⟩
      have s3 := (Same.new (o := .tup [vs]) n1).trans ((Same.new (o := .tup [V.str "super"]) n2).trans (Same.new (o := .tup [V.ref q2]) n3))
      have hq1 := ((Same.new (o := .tup [V.str "super"]) n2).trans (Same.new (o := .tup [V.ref q2]) n3)) _ _ (upd_same (H := H6) (a := q1) (o := .tup [vs]))
      have hq2 := (Same.new (o := .tup [V.ref q2]) n3) _ _ (upd_same (H := upd H6 q1 (.tup [vs])) (a := q2) (o := .tup [V.str "super"]))
      have D3 := dt_stay (TStay.of s3) _ _ Ds
      refine ⟨_, rfl, b, 2, rfl, B6.same s3, by decide, lt9000 (by decide) (by decide), fun c H7 c0 c1 u7 B7 => ?_⟩
      have ts7 := TStay.bag (B6.same s3) u7
      have D7 := dt_stay ts7 _ _ D3
      have hq3 : SqT K H7 q3 [V.ref q2] := ts7.sq (SqT.of upd_same)
      have T1 : SqT K H7 q1 [vs] := ts7.sq (SqT.of hq1)
      have T2 : SqT K H7 q2 [V.str "super"] := ts7.sq (SqT.of hq2)
      have nk : k0 + 1 + (i + 1) = (k0 + 1 + i) + 1 := by omega
      have U7 := (u1.trans u6).trans ((Upto.of s3).trans u7)
      refine ⟨q3, c, _, rfl, rfl, hq3, (by simp), c0, by omega, fun e => ?_, fun e p hp => ?_⟩
      · refine ⟨q1, q3, _, _, rfl, rfl, T1, hq3, by simp, sz (by simp), fun e => absurd e (by simp), fun _ p hp => ?_⟩
        have s8 := Same.new (o := .tup ([vs] ++ [V.ref q2])) hp
        refine ⟨.ref p, [s, .bare (kw "super")], _, _, _, _, _, rfl, ?_, .tup (SqT.of upd_same) (.cons (dt_stay (TStay.of s8) _ _ D7) (.cons (.tup ((TStay.of s8).sq T2) (.cons (.str _) .nil)) .nil)), ?_, by rw [ndB]; have := Nat.le_max_left (ndS s) (ndB [Stp.bare (kw "super")]); omega, U7.trans (Upto.of s8), B7.same s8⟩
        · rw [nk]
          intro t ht
          simp only [List.mem_cons, List.not_mem_nil, or_false] at ht
          rcases ht with rfl | rfl
          · exact oks
          · exact .inl rfl
        · simp [wtB, wtS]
          omega
      · have s8 := Same.new (o := .tup []) hp
        refine ⟨q1, p, _, _, rfl, rfl, (TStay.of s8).sq T1, SqT.of upd_same, by simp, sz (by simp), fun _ => ?_, fun h => absurd rfl h⟩
        refine ⟨.ref q1, [s], _, _, _, _, _, rfl, ?_, .tup ((TStay.of s8).sq T1) (.cons (dt_stay (TStay.of s8) _ _ D7) .nil), ?_, by rw [ndB]; have := Nat.le_max_left (ndS s) (ndB []); omega, U7.trans (Upto.of s8), B7.same s8⟩
        · rw [nk]
          intro t ht
          cases List.mem_singleton.mp ht
          exact oks
        · simp [wtB]
          omega
    · rintro σ H1 ⟨v1, b1, x4, x5, x6, x7, x8, rfl, ok1, D1, wt1, nd1, u1, B1⟩
      exact ⟨_, rfl, k v1 b1 _ ok1 D1 wt1 nd1 u1 B1⟩
end

/-! ### 10. canonical texts: the law's own writing -/
theorem asc_kw {x : Str} (h : (kw x).all (· < 128) = true) : Asc (kw x) := fun c hc => by simpa using List.all_eq_true.mp h c hc
theorem lay_app : ∀ {xs ys : List PyData}, PyData.canLayAll0 xs = true → PyData.canLayAll0 ys = true → PyData.canLayAll0 (xs ++ ys) = true
  | [], _, _, h => h
  | x :: xs, ys, h, k => by
    have h' : (PyData.canLay0 x && PyData.canLayAll0 xs) = true := h
    rw [Bool.and_eq_true] at h'
    show (PyData.canLay0 x && PyData.canLayAll0 (xs ++ ys)) = true
    rw [h'.1, lay_app h'.2 k]
    rfl
theorem with_asc {w : List Nat} (h : inV (.str (S w)) stepV = true) : Asc w := tok_asc (with_tok h)
theorem lay_tup {ds : List PyData} (h : PyData.canLayAll0 ds = true) : PyData.canLay0 (.tuple ds) = true := h
theorem lay_cons {d : PyData} {ds : List PyData} (h : PyData.canLay0 d = true) (k : PyData.canLayAll0 ds = true) : PyData.canLayAll0 (d :: ds) = true := by
  show (PyData.canLay0 d && PyData.canLayAll0 ds) = true
  rw [h, k]
  rfl
theorem lay_str {a : List Nat} (h : Asc a) : PyData.canLay0 (.str (S a)) = true := strOk_S h
theorem dep_tup {ds : List PyData} {n : Nat} (h : PyData.depthAll ds ≤ n) : PyData.depth (.tuple ds) ≤ n + 1 := by
  show PyData.depthAll ds + 1 ≤ n + 1
  omega
theorem dep_cons {d : PyData} {ds : List PyData} {n : Nat} (h : PyData.depth d ≤ n) (k : PyData.depthAll ds ≤ n) : PyData.depthAll (d :: ds) ≤ n := by
  show max (PyData.depth d) (PyData.depthAll ds) ≤ n
  omega
theorem dep_nil {n : Nat} : PyData.depthAll [] ≤ n := Nat.zero_le _
theorem dep_str {x : Str} {n : Nat} : PyData.depth (.str x) ≤ n := Nat.zero_le _
def LayK (okk : List Stp → Prop) (D : Nat) : Prop := ∀ b, okk b → PyData.canLayAll0 (datB b) = true ∧ PyData.depthAll (datB b) ≤ D
theorem layL {okk : List Stp → Prop} {D : Nat} (L : LayK okk D) : ∀ bs : List (List Stp), (∀ b ∈ bs, okk b) → PyData.canLayAll0 (datL bs) = true ∧ PyData.depthAll (datL bs) ≤ D + 1
  | [], _ => ⟨rfl, Nat.zero_le _⟩
  | b :: bs, h => by
    obtain ⟨h1, h2⟩ := L b (h b (by simp))
    obtain ⟨h3, h4⟩ := layL L bs fun c hc => h c (by simp [hc])
    exact ⟨lay_cons (lay_tup h1) h3, dep_cons (dep_tup h2) h4⟩
theorem layS {okk : List Stp → Prop} {D : Nat} (L : LayK okk D) (s : Stp) (h : okSt okk s) : PyData.canLay0 (datS s) = true ∧ PyData.depth (datS s) ≤ D + 3 := by
  have sk : ∀ {x : Str}, (kw x).all (· < 128) = true → PyData.canLay0 (.str x) = true := fun {x} h => by
    have := lay_str (asc_kw h)
    rwa [S_kw] at this
  cases s with
  | word w x => exact ⟨lay_tup (lay_cons (lay_str (with_asc (with_ne h.1).1)) (lay_cons (lay_str (tok_asc (word_tok h.2))) rfl)), dep_tup (dep_cons dep_str (dep_cons dep_str dep_nil))⟩
  | cls w x => exact ⟨lay_tup (lay_cons (lay_str (with_asc (class_ne h.1).1)) (lay_cons (lay_str (tok_asc (class_tok h.2))) rfl)), dep_tup (dep_cons dep_str (dep_cons dep_str dep_nil))⟩
  | bare w => exact ⟨lay_tup (lay_cons (lay_str (with_asc (bare_ne h).1)) rfl), dep_tup (dep_cons dep_str dep_nil)⟩
  | loop b =>
    obtain ⟨h1, h2⟩ := L b h
    exact ⟨lay_tup (lay_cons (sk (by decide +kernel)) (lay_cons (lay_tup h1) rfl)), dep_tup (dep_cons dep_str (dep_cons (Nat.le_trans (dep_tup h2) (by omega)) dep_nil))⟩
  | iff x a b =>
    obtain ⟨h1, h2⟩ := L a h.2.1
    obtain ⟨h3, h4⟩ := L b h.2.2
    exact ⟨lay_tup (lay_cons (sk (by decide +kernel)) (lay_cons (lay_str (tok_asc (word_tok h.1))) (lay_cons (lay_tup h1) (lay_cons (lay_tup h3) rfl)))), dep_tup (dep_cons dep_str (dep_cons dep_str (dep_cons (Nat.le_trans (dep_tup h2) (by omega)) (dep_cons (Nat.le_trans (dep_tup h4) (by omega)) dep_nil))))⟩
  | tr a b =>
    obtain ⟨h1, h2⟩ := L a h.1
    obtain ⟨h3, h4⟩ := L b h.2
    exact ⟨lay_tup (lay_cons (sk (by decide +kernel)) (lay_cons (lay_tup h1) (lay_cons (lay_tup h3) rfl))), dep_tup (dep_cons dep_str (dep_cons (Nat.le_trans (dep_tup h2) (by omega)) (dep_cons (Nat.le_trans (dep_tup h4) (by omega)) dep_nil)))⟩
  | ei bs =>
    obtain ⟨h1, h2⟩ := layL L bs h.2
    exact ⟨lay_tup (lay_cons (sk (by decide +kernel)) (lay_cons (lay_tup h1) rfl)), dep_tup (dep_cons dep_str (dep_cons (dep_tup h2) dep_nil))⟩
theorem layB {okk : List Stp → Prop} {D : Nat} (L : LayK okk D) : ∀ b : List Stp, (∀ s ∈ b, okSt okk s) → PyData.canLayAll0 (datB b) = true ∧ PyData.depthAll (datB b) ≤ D + 3
  | [], _ => ⟨rfl, Nat.zero_le _⟩
  | s :: b, h => by
    obtain ⟨h1, h2⟩ := layS L s (h s (by simp))
    obtain ⟨h3, h4⟩ := layB L b fun c hc => h c (by simp [hc])
    exact ⟨lay_cons h1 h3, dep_cons h2 h4⟩
theorem layN : ∀ n, LayK (okK n) (3 * n)
  | 0 => fun _ h => h.elim
  | n + 1 => fun b h => layB (layN n) b h
theorem shaped_body {n : Nat} {b : List Stp} (hn : n ≤ 20) (h : okK n b) : SeqAt.shaped (.tuple (datB b)) = true := by
  obtain ⟨h1, h2⟩ := layN n b h
  have e : PyData.canLay0 (.tuple (datB b)) = true := h1
  have e2 : PyData.depth (.tuple (datB b)) = PyData.depthAll (datB b) + 1 := rfl
  simp only [SeqAt.shaped, e, e2, Bool.true_and, decide_eq_true_eq]
  omega
theorem eqv_nil_body (b : List Stp) : PyData.eqv (.tuple (datB b)) (.tuple []) = b.isEmpty := by
  cases b <;> rfl
theorem dtAll_strs {K : PySem.W.Frag} {H : Hp} : ∀ {ws : List (List Nat)} {vs : List V}, DtAll K H vs (strsD ws) → vs = txV ws
  | [], _, .nil => rfl
  | a :: ws, _, .cons h1 h2 => by
    cases h1
    rw [dtAll_strs h2]
    rfl
theorem dt_strs {K : PySem.W.Frag} {H : Hp} {v : V} {ws : List (List Nat)} (h : Dt K H v (.tuple (strsD ws))) : ∃ q, v = .ref q ∧ SqT K H q (txV ws) := by
  cases h with
  | tup hs ha =>
    rw [dtAll_strs ha] at hs
    exact ⟨_, rfl, hs⟩
theorem step_kinds {okk : List Stp → Prop} {s : Stp} (h : okSt okk s) : (∃ wd r, datS s = .tuple (strsD (wd :: r)) ∧ wrS s = TL.joinL [32] (wd :: r) ++ [59] ∧ sgS s = (wd :: r) ++ [kw ";"] ∧ r.length ≤ 1 ∧ isW wd "loop" = false ∧ isW wd "if" = false ∧ isW wd "try" = false ∧ isW wd "either" = false) ∨
    (∃ b, s = .loop b) ∨ (∃ x a b, s = .iff x a b) ∨ (∃ a b, s = .tr a b) ∨ ∃ bs, s = .ei bs := by
  cases s with
  | word w x =>
    obtain ⟨_, n1, n2, n3, n4⟩ := with_ne h.1
    exact .inl ⟨w, [x], rfl, by simp [wrS, TL.joinL], rfl, by simp, n1, n2, n3, n4⟩
  | cls w x =>
    obtain ⟨_, n1, n2, n3, n4, _⟩ := class_ne h.1
    exact .inl ⟨w, [x], rfl, by simp [wrS, TL.joinL], rfl, by simp, n1, n2, n3, n4⟩
  | bare w =>
    obtain ⟨_, n1, n2, n3, n4, _⟩ := bare_ne h
    exact .inl ⟨w, [], rfl, by simp [wrS, TL.joinL], rfl, by simp, n1, n2, n3, n4⟩
  | loop b => exact .inr (.inl ⟨b, rfl⟩)
  | iff x a b => exact .inr (.inr (.inl ⟨x, a, b, rfl⟩))
  | tr a b => exact .inr (.inr (.inr (.inl ⟨a, b, rfl⟩)))
  | ei bs => exact .inr (.inr (.inr (.inr ⟨bs, rfl⟩)))
theorem join_len1 {s : Nat} (ws : List (List Nat)) : ((ws.map S).map fun x => x.length).sum + ws.length ≤ (TL.joinL [s] ws).length + 1 := by
  have := join_tot (s := [s]) ws
  simp only [List.length_singleton, Nat.mul_one] at this
  have e : ((ws.map S).map fun x => x.length) = ws.map (·.length) := by
    rw [List.map_map]
    exact List.map_congr_left fun a _ => S_len a
  rw [e]
  exact this

/-! ### 11. enumerate over a tuple -/
section
set_option maxHeartbeats 8000000
/-- enumerate(v) with one argument, v told by how its iterator begins -/
theorem meets_enum1 {v : Value} {o : Obj} {G : Heap → Prop} (B : Begins v o G) :
    Meets (Builtin.«enumerate.__new__» ⟨[.type "enumerate", v], []⟩) (fun _ R s => G s.heap ∧
      R (.ok (.ret (.ref (s.heap.push o).objs.size))) { s with heap := (s.heap.push o).push { cls := .type "enumerate", data := .fields #[.none, .bool false, .ref s.heap.objs.size, rawInt 0, .none, .none] } }) :=
  .of_wp fun prog w A R s h => by
    obtain ⟨hp, g, d, tk, os⟩ := s
    obtain ⟨h1, h⟩ := h
    have hsub := sub_enumerate
    have q1 : ∀ {A' : Around} {E : Value → Shared → Prop} {Q : Value → Shared → Prop}, Q (.ref hp.objs.size) ⟨hp.push o, g, d, tk, os⟩ → wpAny (model prog w) A' (pyIter v) Q E ⟨hp, g, d, tk, os⟩ :=
      fun q => B.iter prog w _ _ ⟨hp, g, d, tk, os⟩ _ h1 q
    wp_walk using q1
    refine wpAny_stack_any fun st => wpAny_pure ?_
    split
    · rename_i c _ _ _ _ _
      cases (c == Value.type "enumerate")
      · wp_walk using q1
        exact ⟨_, rfl, h⟩
      · wp_walk using q1
        exact ⟨_, rfl, h⟩
    · wp_walk using q1
      exact ⟨_, rfl, h⟩
theorem call_enum1 {prog : Program} {w : World} {A : Around} {E : Value → Shared → Prop} {s : Shared} {v : Value} {o : Obj} {G : Heap → Prop} {Q : Value → Shared → Prop} (B : Begins v o G) (h1 : G s.heap)
    (h : ∀ h', IsEnum h' (s.heap.objs.size + 1) s.heap.objs.size 0 .none → h'.get? s.heap.objs.size = some o → (∀ b o, s.heap.get? b = some o → h'.get? b = some o) → Q (.ref (s.heap.objs.size + 1)) { s with heap := h' }) :
    wpAny (model prog w) A (call (.type "enumerate") [v]) Q E s := by
  refine callType_new F.called_enumerate (by decide) (F.typeCall_enumerate_1 _) (F.newCall_enumerate_1 _) (fun obj => F.args_object_init_2 obj _) F.entry_enumerate_new (meets_enum1 B) ⟨h1, ?_⟩
  have hz : (s.heap.push o).objs.size = s.heap.objs.size + 1 := Heap.size_push ..
  show _ ∧ _
  rw [hz]
  have he : IsEnum ((s.heap.push o).push { cls := .type "enumerate", data := .fields #[.none, .bool false, .ref s.heap.objs.size, rawInt 0, .none, .none] }) (s.heap.objs.size + 1) s.heap.objs.size 0 .none := by
    have := Heap.get?_push_size (s.heap.push o) (o := { cls := .type "enumerate", data := .fields #[.none, .bool false, .ref s.heap.objs.size, rawInt 0, .none, .none] }) rfl
    rw [hz] at this
    exact this
  exact ⟨⟨_, he, rfl⟩, h _ he (Heap.get?_push_of_some _ (Heap.get?_push_size _ B.free)) fun b o x => Heap.get?_push_of_some _ (Heap.get?_push_of_some _ x)⟩
/-- the pairs of a tuple's places and items, each pair new -/
def IteT (K : PySem.W.Frag) (a : Addr) : It :=
  ⟨fun i H => ∃ (xs : List V) (x : V), SqT K H a xs ∧ xs[i]? = some x, fun i H v H' => ∃ T x, v = .ref T ∧ H T = none ∧ H' = upd H T (.tup [.int (i : Nat), x]) ∧ ∀ xs, SqT K H a xs → xs[i]? = some x, fun i H => ∃ xs : List V, SqT K H a xs ∧ xs.length = i⟩
theorem walk_enumT {K : PySem.W.Frag} {a : Addr} {xs : List V} : Walk (IteT K a) xs.length (fun H => SqT K H a xs) (YPair (fun i => some (.int (i : Nat))) (fun i => xs[i]?)) := by
  refine ⟨fun i _ hi q => ⟨xs, xs[i], q, by simp [hi]⟩, fun _ q => ⟨xs, q, rfl⟩, fun i H v H' _ q y => ?_⟩
  obtain ⟨T, x, h1, h2, h3, h4⟩ := y
  exact ⟨T, .int (i : Nat), x, h1, h2, h3, rfl, h4 xs q⟩
theorem turn_enumT {P : Program} {w : World} {K : PySem.W.Frag} {elts : List Expr} {kk : Nat} {tpos : Pos} (a e it : Addr) :
    Turn P w K (.Tuple elts kk tpos) (IteT K a) [e, it] e (fun i h => (∃ old, IsEnum h e it ((i : Nat) : Int) old) ∧ h.IsTupleIter it a i ∧ e ≠ it) where
  mem := by simp
  obj := fun i h st b hb => by
    obtain ⟨⟨old, he⟩, ⟨o, ho, hc, hd⟩, _⟩ := st
    rcases (show b = e ∨ b = it by simpa using hb) with rfl | rfl
    · exact ⟨_, he, fun v q => nomatch q⟩
    · exact ⟨o, ho, fun v q => by rw [hd] at q; cases q⟩
  keep := fun i h h' st k => let ⟨⟨old, he⟩, hi, hne⟩ := st; ⟨⟨old, k e (by simp) _ he⟩, hi.at fun o q => k it (by simp) o q, hne⟩
  item := by
    intro X hP hw hK hc i pins s σ H E I hf st hg
    subst hP hw hK
    obtain ⟨⟨old, he⟩, hit, hne⟩ := st
    obtain ⟨xs, x, hq, hx⟩ := hg
    obtain ⟨its, rv, p, hz⟩ := I.tuple hq
    have p : s.heap.IsTuple a its.toArray := p
    obtain ⟨u, hu, ru⟩ := rv.get hx
    have hel : e < s.heap.objs.size := Heap.lt_size he
    have hil : it < s.heap.objs.size := by obtain ⟨_, q, _⟩ := hit; exact Heap.lt_size q
    have hai : a ≠ it := fun z => by
      subst z
      obtain ⟨o, h1, h2, _⟩ := p
      obtain ⟨o', h3, h4, _⟩ := hit
      rw [h1] at h3
      cases h3
      rw [h2] at h4
      exact absurd h4 (by decide)
    have hea : e ≠ a := fun z => by
      subst z
      obtain ⟨o, h1, h2, _⟩ := p
      rw [he] at h1
      cases h1
      have h2 : Value.type "enumerate" = Value.type "tuple" := h2
      exact absurd h2 (by decide)
    have D := Draws.tuple (prog := X.prog) (w := X.w) (A := X.A.in1) (show X.A.in1.handled = none from I.ok.hd hc) it a hai its.toArray
    have hlt : i < its.toArray.size := by
      have h1 : i < xs.length := (List.getElem?_eq_some_iff.mp hx).1
      rw [rv.length] at h1
      simpa using h1
    refine wpAny_pyNext_enum_itemD D he ⟨hit, p⟩ hlt hne (by simp [hne, hea]) fun y h' tk hP ho hit' hT hsz hk => ?_
    have hy : y = u := by
      have h1 : its[i]? = some y := by simpa using hP
      rw [hu] at h1
      exact (Option.some.inj h1).symm
    subst hy
    refine ⟨_, rfl, wpAny_letOwnedTupleGo_enum (s := { s with heap := h', toks := tk + 1 }) ho fun h'' he' sb => ?_⟩
    have hT2 : h''.get? s.heap.objs.size = some { cls := .type "tuple", data := .seq #[.int i tk, y] } := (sb.2 _ (Nat.ne_of_gt hel)).trans hT
    have new : ObjOk X.prog X.w (upd H s.heap.objs.size (.tup [.int (i : Nat), x])) h'' s.heap.objs.size (.tup [.int (i : Nat), x]) :=
      ⟨by show 2 ≤ sizeLine; decide, [.int i tk, y], .cons ⟨_, rfl⟩ (.cons ru .nil), ⟨_, hT2, rfl, _, rfl⟩⟩
    have I1 : Inv X pins σ (upd H s.heap.objs.size (.tup [.int (i : Nat), x])) { s with heap := h'', toks := tk + 1 } :=
      I.turnedNew (ch := [e, it]) (fun b ob hb q => (sb.2 b (fun z => hb (by simp [z]))).trans (hk b ob (fun z => hb (by simp [z])) (fun z => hb (by simp [z])) q)) hf (Nat.le_refl _) new
    refine ⟨.ref s.heap.objs.size, _, I1, rfl, ⟨_, x, rfl, I.hok.fresh (Nat.le_refl _), rfl, fun ys hy => by rw [I.tuple_inj hy hq]; exact hx⟩, ⟨⟨y, ?_⟩, hit'.1.at fun o q => (sb.2 it (Ne.symm hne)).trans q, hne⟩, fun b hb => ?_⟩
    · have e1 : ((i + 1 : Nat) : Int) = (i : Int) + 1 := by omega
      rw [e1]
      exact he'
    · have hb' : b < s.heap.objs.size := by
        rcases (show b = e ∨ b = it by simpa using hb) with rfl | rfl
        · exact hel
        · exact hil
      rw [upd_ne (Nat.ne_of_lt hb')]
      exact (hf b hb).1
  done := by
    intro X hP hw hK hc i pins s σ H E I hf st hg
    subst hP hw hK
    obtain ⟨⟨old, he⟩, hit, hne⟩ := st
    obtain ⟨xs, hq, hx⟩ := hg
    obtain ⟨its, rv, p, hz⟩ := I.tuple hq
    have p : s.heap.IsTuple a its.toArray := p
    have hai : a ≠ it := fun z => by
      subst z
      obtain ⟨o, h1, h2, _⟩ := p
      obtain ⟨o', h3, h4, _⟩ := hit
      rw [h1] at h3
      cases h3
      rw [h2] at h4
      exact absurd h4 (by decide)
    obtain ⟨f0, f1, f2, f3, f4, f5⟩ := hf it (by simp)
    have D := Draws.tuple (prog := X.prog) (w := X.w) (A := X.A.in1) (show X.A.in1.handled = none from I.ok.hd hc) it a hai its.toArray
    have hn : i = its.toArray.size := by
      rw [← hx, rv.length]
      simp
    subst hn
    exact wpAny_pyNext_enum_endD D he ⟨hit, p⟩ fun h' eb => ⟨rfl, I.turned (t' := s.toks) (fun b o hb q => eb b o hb q) f0 f1 f3 f4 f5⟩
  self := fun A i s Q E st h => let ⟨⟨_, he⟩, _⟩ := st; wpAny_pyIter_enum he h
def iEnumT (K : PySem.W.Frag) (ta : TA) : TI := fun σ H R => ta σ H fun vs H1 => ∃ a xs, vs = [.ref a] ∧ SqT K H1 a xs ∧ R (IteT K a) H1
theorem pi_enumT {X : Cx} {e : Expr} {ta : TA} {p pos tpos : Pos} {elts : List Expr} {kk : Nat} (hg : Gl X "enumerate") (hm : X.mg "enumerate" = none) (ha : PA X [e] ta) (hs : starEach [e] X.env = [(false, eval e X.env)] := by rfl) :
    PI X (.Tuple elts kk tpos) (.Call (.Name "enumerate" p) [e] [] pos) (iEnumT X.K ta) := by
  refine ⟨fun pins s σ H R I h => ?_⟩
  refine Call_ (ld_blt I hg hm boot_enumerate (PyProof.Rows.callWith_type1 (thn (ha.run pos pins s σ H _ I h) fun us s1 ⟨vs, H1, I1, r1, q1⟩ => ?_) hs rfl))
  obtain ⟨a, xs, ex, hq, q⟩ := q1
  subst ex
  cases r1 with
  | cons r rr =>
    cases rr
    cases r
    obtain ⟨its, rv, p', hz⟩ := I1.tuple hq
    refine call_enum1 (begins_tuple a its.toArray) p' fun h' he ho hk => wpAny_pyIter_enum he ?_
    have I2 : Inv X pins σ H1 { s1 with heap := h' } := I1.kept (t' := s1.toks) hk
    refine ⟨s1.heap.objs.size + 1, [s1.heap.objs.size + 1, s1.heap.objs.size], _, _, H1, rfl, I2, turn_enumT a (s1.heap.objs.size + 1) s1.heap.objs.size, ⟨⟨.none, he⟩, ⟨_, ho, rfl, rfl⟩, Nat.succ_ne_self _⟩, fun b hb => ?_, q⟩
    have hle : s1.heap.objs.size ≤ b := by
      rcases (show b = s1.heap.objs.size + 1 ∨ b = s1.heap.objs.size by simpa using hb) with z | z
      · rw [z]; exact Nat.le_add_right _ _
      · rw [z]; exact Nat.le_refl _
    exact I1.fpOk hle (I1.hok.fresh hle)
end

/-! ### 12. the law's signs -/
theorem txV_app (a b : List (List Nat)) : txV (a ++ b) = txV a ++ txV b := by simp [txV]
theorem sgB_app : ∀ a b : List Stp, sgB (a ++ b) = sgB a ++ sgB b
  | [], _ => rfl
  | s :: a, b => by
    show sgS s ++ sgB (a ++ b) = (sgS s ++ sgB a) ++ sgB b
    rw [sgB_app a b, List.append_assoc]
theorem sgB_take {b : List Stp} {i : Nat} {s : Stp} (h : b[i]? = some s) : sgB (b.take (i + 1)) = sgB (b.take i) ++ sgS s := by
  rw [List.take_add_one, h, sgB_app]
  simp [sgB]
theorem sgB_le (b : List Stp) (i : Nat) : (sgB (b.take i)).length ≤ (sgB b).length := by
  conv => rhs; rw [← List.take_append_drop i b, sgB_app, List.length_append]
  omega
theorem sgE_app : ∀ (f : Bool) (a b : List (List Stp)), sgE f (a ++ b) = sgE f a ++ sgE (f && a.isEmpty) b
  | f, [], b => by simp [sgE]
  | f, c :: a, b => by
    show (if f then kw "either" else kw "or") :: (kw "{" :: (sgB c ++ [kw "}"])) ++ sgE false (a ++ b) = _
    rw [sgE_app false a b]
    simp [sgE]
theorem sgE_take {b : List (List Stp)} {i : Nat} {s : List Stp} (h : b[i]? = some s) : sgE true (b.take (i + 1)) = sgE true (b.take i) ++ ((if i = 0 then kw "either" else kw "or") :: sgK s) := by
  rw [List.take_add_one, h, sgE_app]
  congr 1
  have hi : i < b.length := (List.getElem?_eq_some_iff.mp h).1
  have e : (b.take i).isEmpty = decide (i = 0) := by
    cases i with
    | zero => rfl
    | succ i =>
      cases b with
      | nil => simp at hi
      | cons c b => rfl
  rw [e]
  cases i with
  | zero => simp [sgE, sgK]
  | succ i => simp [sgE, sgK]
theorem sgE_le (b : List (List Stp)) (i : Nat) : (sgE true (b.take i)).length ≤ (sgE true b).length := by
  conv => rhs; rw [← List.take_append_drop i b, sgE_app, List.length_append]
  omega
section
variable {P : Program} {w : World} {K : PySem.W.Frag} {mg : Str → Option Value} {base : Heap} {Z : Addrs}
def spSg (K : PySem.W.Frag) (okk : List Stp → Prop) : Sp := fun vs H Q _ => ∃ v b, vs = [v] ∧ Dt K H v (.tuple (datB b)) ∧ (∀ s ∈ b, okSt okk s) ∧ (sgB b).length ≤ 100000 ∧ ∀ g H', H g = none → Same H H' → H' g = some (.lst (txV (sgB b))) → Q (.ref g) H'
def spCu (K : PySem.W.Frag) (okk : List Stp → Prop) : Sp := fun vs H Q _ => ∃ v b, vs = [v] ∧ Dt K H v (.tuple (datB b)) ∧ okk b ∧ (sgK b).length ≤ 100000 ∧ ∀ g H', H g = none → Same H H' → H' g = some (.lst (txV (sgK b))) → Q (.ref g) H'
theorem c__law_curly0 (T : Txt K mg Z) : Cal P w K mg base 1 "_law_curly" (spCu K (okK 0)) [] := by
  refine cal_of (k := 0) T.d__law_curly sc__law_curly (fun vs H Q E h => ?_) (fun f cdv A outer s H vs Q E hr h => ?_)
  · obtain ⟨v, b, rfl, _⟩ := h
    rfl
  · obtain ⟨v, b, rfl, _, h, _⟩ := h
    exact h.elim
theorem c__law_curlyS (T : Txt K mg Z) {n l : Nat} (c__law_signs : Cal P w K mg base l "_law_signs" (spSg K (okK n)) []) : Cal P w K mg base (l + 1) "_law_curly" (spCu K (okK (n + 1))) [] := by
  refine cal_of T.d__law_curly sc__law_curly (fun vs H Q E h => ?_) (fun f cdv A outer s H vs Q E hr h => ?_)
  · obtain ⟨v, b, rfl, _⟩ := h
    rfl
  · obtain ⟨v, b, rfl, D, hok, hl, k⟩ := h
    refine ⟨_, (pss_one (ps_ret (pe_op op_cat (pe_op op_cat (pe_lst (pa_cons pe_str pa_nil)) (pe_c c__law_signs hr (by omega) rfl (pa_cons (pv 0) pa_nil))) (pe_lst (pa_cons pe_str pa_nil))))), ?_⟩
    have hl2 : (sgB b).length + 2 ≤ 100000 := by
      simp only [sgK, List.length_cons, List.length_append, List.length_nil] at hl
      omega
    refine ⟨sz (by simp), fun q1 n1 => ⟨_, rfl, v, b, rfl, dt_stay (TStay.of (Same.new n1)) _ _ D, hok, by omega, fun g H1 ng e1 hg => ?_⟩⟩
    refine ⟨q1, g, _, _, rfl, rfl, e1 _ _ upd_same, hg, by rw [txV_len]; exact sz (by simp; omega), fun q2 n2 => ⟨sz (by simp), fun q3 n3 => ?_⟩⟩
    refine ⟨q2, q3, _, _, rfl, rfl, (Same.new n3) _ _ upd_same, upd_same, by rw [List.length_append, txV_len]; exact sz (by simp; omega), fun q4 n4 => ?_⟩
    have s1 := (Same.new (o := .lst [V.str "{"]) n1).trans e1
    have s4 := s1.trans ((Same.new (o := .lst ([V.str "{"] ++ txV (sgB b))) n2).trans ((Same.new (o := .lst [V.str "}"]) n3).trans (Same.new (o := .lst ([V.str "{"] ++ txV (sgB b) ++ [V.str "}"])) n4)))
    refine k q4 _ (((s1.trans ((Same.new n2).trans (Same.new n3)))).free n4) s4 ?_
    rw [upd_same, sgK, show kw "{" :: (sgB b ++ [kw "}"]) = [kw "{"] ++ sgB b ++ [kw "}"] by simp, txV_app, txV_app]
    rfl
theorem c__law_signs (T : Txt K mg Z) {okk : List Stp → Prop} {l : Nat} (c__law_curly : Cal P w K mg base l "_law_curly" (spCu K okk) []) : Cal P w K mg base (l + 1) "_law_signs" (spSg K okk) [] := by
  refine cal_of T.d__law_signs sc__law_signs (fun vs H Q E h => ?_) (fun f cdv A outer s H vs Q E hr h => ?_)
  · obtain ⟨v, b, rfl, _⟩ := h
    rfl
  · obtain ⟨v, b, rfl, D, hok, hl, k⟩ := h
    cases D with
    | @tup p xs _ hT hA =>
      have lx := dtAll_len hA
      refine ⟨_, (pss_cons (ps_set (i := 1) sc__law_signs.nd rfl (by first | exact Or.inl rfl | exact Or.inr rfl) (pe_lst pa_nil))
      (pss_cons (ps_for PassesOwn.never rfl (pi_tup (pv 0)) (pg_name (i := 2) sc__law_signs.nd rfl (by first | exact Or.inl rfl | exact Or.inr rfl)) (pss_one (ps_if (pt_cmpR op_eq (pe_ix ix_tup (pv 2) pe_int (fun _ _ => rfl)) pe_str (nomark _)) (pss_one (ps_expr (pe_bm PySem.F.plainAttrs_list PySem.F.slot_list_extend PySem.F.type_list_extend mt_extend (pv 1) (pa_cons (pe_op op_cat (pe_lst (pa_cons pe_str pa_nil)) (pe_c c__law_curly hr (by omega) rfl (pa_cons (pe_ix ix_tup (pv 2) pe_int (fun _ _ => rfl)) pa_nil))) pa_nil)))) (pss_one (ps_if (pt_cmpR op_eq (pe_ix ix_tup (pv 2) pe_int (fun _ _ => rfl)) pe_str (nomark _)) (pss_one (ps_expr (pe_bm PySem.F.plainAttrs_list PySem.F.slot_list_extend PySem.F.type_list_extend mt_extend (pv 1) (pa_cons (pe_op op_cat (pe_op op_cat (pe_op op_cat (pe_lst (pa_cons pe_str (pa_cons (pe_ix ix_tup (pv 2) pe_int (fun _ _ => rfl)) pa_nil))) (pe_c c__law_curly hr (by omega) rfl (pa_cons (pe_ix ix_tup (pv 2) pe_int (fun _ _ => rfl)) pa_nil))) (pe_lst (pa_cons pe_str pa_nil))) (pe_c c__law_curly hr (by omega) rfl (pa_cons (pe_ix ix_tup (pv 2) pe_int (fun _ _ => rfl)) pa_nil))) pa_nil)))) (pss_one (ps_if (pt_cmpR op_eq (pe_ix ix_tup (pv 2) pe_int (fun _ _ => rfl)) pe_str (nomark _)) (pss_one (ps_expr (pe_bm PySem.F.plainAttrs_list PySem.F.slot_list_extend PySem.F.type_list_extend mt_extend (pv 1) (pa_cons (pe_op op_cat (pe_op op_cat (pe_op op_cat (pe_lst (pa_cons pe_str pa_nil)) (pe_c c__law_curly hr (by omega) rfl (pa_cons (pe_ix ix_tup (pv 2) pe_int (fun _ _ => rfl)) pa_nil))) (pe_lst (pa_cons pe_str pa_nil))) (pe_c c__law_curly hr (by omega) rfl (pa_cons (pe_ix ix_tup (pv 2) pe_int (fun _ _ => rfl)) pa_nil))) pa_nil)))) (pss_one (ps_if (pt_cmpR op_eq (pe_ix ix_tup (pv 2) pe_int (fun _ _ => rfl)) pe_str (nomark _)) (pss_one (ps_for PassesOwn.never rfl (pi_enumT rfl T.b_enumerate (pa_cons (pe_ix ix_tup (pv 2) pe_int (fun _ _ => rfl)) pa_nil)) (pg_tup (by rfl) (pgs_cons (pg_name (i := 3) sc__law_signs.nd rfl (by first | exact Or.inl rfl | exact Or.inr rfl)) (pgs_cons (pg_name (i := 4) sc__law_signs.nd rfl (by first | exact Or.inl rfl | exact Or.inr rfl)) pgs_nil))) (pss_one (ps_expr (pe_bm PySem.F.plainAttrs_list PySem.F.slot_list_extend PySem.F.type_list_extend mt_extend (pv 1) (pa_cons (pe_op op_cat (pe_lst (pa_cons (pe_ifExp (pt_cmpR op_eq (pv 3) pe_int (nomark _)) pe_str pe_str) pa_nil)) (pe_c c__law_curly hr (by omega) rfl (pa_cons (pv 4) pa_nil))) pa_nil)))))) (pss_one (ps_expr (pe_bm PySem.F.plainAttrs_list PySem.F.slot_list_extend PySem.F.type_list_extend mt_extend (pv 1) (pa_cons (pe_op op_cat (pe_callTy call_list_of (by rfl) T.b_list (by decide +kernel) (pa_cons (pv 2) pa_nil)) (pe_lst (pa_cons pe_str pa_nil))) pa_nil)))))))))))))
      (pss_one (ps_ret (pv 1))))), ?_⟩
      have hTs : ∀ {H' : Hp}, Same H H' → SqT K H' p xs := fun e => (TStay.of e).sq hT
      refine ⟨by decide, fun g ng => ⟨_, rfl, p, rfl, ⟨_, hTs (Same.new ng)⟩, ?_⟩⟩
      refine for_tup (fun i σ H1 => ∃ v2 v3 v4 : Option V, σ = [some (.ref p), some (.ref g), v2, v3, v4] ∧ Same H H1 ∧ H1 g = some (.lst (txV (sgB (b.take i))))) ⟨_, _, _, rfl, Same.new ng, upd_same⟩ (fun i σ H1 _ h => hTs h.choose_spec.choose_spec.choose_spec.2.1) ?_ ?_
      · rintro i x σ H1 hx ⟨v2, v3, v4, rfl, S1, hg1⟩
        obtain ⟨d, hd, Dx⟩ := dtAll_get hA hx
        obtain ⟨s, hs, rfl⟩ := datB_get hd
        have hos := hok s (List.mem_of_getElem? hs)
        have D1 := dt_stay (TStay.of S1) _ _ Dx
        have hst := sgB_take hs
        have hle := sgB_le b (i + 1)
        rw [hst, List.length_append] at hle
        have put : ∀ {H2 : Hp} {z2 z3 z4 : Option V}, Same H H2 → ∃ v2 v3 v4 : Option V, [some (V.ref p), some (.ref g), z2, z3, z4] = [some (.ref p), some (.ref g), v2, v3, v4] ∧ Same H (upd H2 g (.lst (txV (sgB (b.take i)) ++ txV (sgS s)))) ∧ (upd H2 g (.lst (txV (sgB (b.take i)) ++ txV (sgS s)))) g = some (.lst (txV (sgB (b.take (i + 1))))) := fun {H2 z2 z3 z4} S2 => ⟨_, _, _, rfl, fun a o e => by
            rw [upd_ne (ne_of_none e ng)]
            exact S2 _ _ e, by rw [upd_same, hst, txV_app]⟩
        have hlen : (txV (sgB (b.take i))).length + (txV (sgS s)).length ≤ sizeLine := by
          rw [txV_len, txV_len]
          exact sz (by omega)
        rcases step_kinds hos with ⟨wd, r, e1, _, e2, hr1, n1, n2, n3, n4⟩ | ⟨a, rfl⟩ | ⟨x', a, c, rfl⟩ | ⟨a, c, rfl⟩ | ⟨bs, rfl⟩
        · rw [e1] at D1
          obtain ⟨q, rfl, hq⟩ := dt_strs D1
          refine ⟨_, rfl, q, _, 0, _, rfl, rfl, hq, atI_nat (j := 0) rfl, rfl, _, rfl, iteN (notW n1) ?_⟩
          refine ⟨_, rfl, q, _, 0, _, rfl, rfl, hq, atI_nat (j := 0) rfl, rfl, _, rfl, iteN (notW n2) ?_⟩
          refine ⟨_, rfl, q, _, 0, _, rfl, rfl, hq, atI_nat (j := 0) rfl, rfl, _, rfl, iteN (notW n3) ?_⟩
          refine ⟨_, rfl, q, _, 0, _, rfl, rfl, hq, atI_nat (j := 0) rfl, rfl, _, rfl, iteN (notW n4) ?_⟩
          refine ⟨_, rfl, .inl ⟨rfl, _, SqL.of hg1⟩, _, rfl, q, _, rfl, .inr hq, fun l nl => ⟨sz (by simp), fun l2 nl2 => ?_⟩⟩
          have st := (Same.new (o := .lst (txV (wd :: r))) nl).trans (Same.new (o := .lst [V.str ";"]) nl2)
          refine ⟨l, l2, _, _, rfl, rfl, (Same.new nl2) _ _ upd_same, upd_same, by rw [txV_len]; exact sz (by simp; omega), fun l3 nl3 => ?_⟩
          have st3 := st.trans (Same.new (o := .lst (txV (wd :: r) ++ [V.str ";"])) nl3)
          have e3 : txV (wd :: r) ++ [V.str ";"] = txV (sgS s) := by rw [e2, txV_app]; rfl
          rw [e3] at st3 ⊢
          exact ⟨g, l3, _, _, rfl, rfl, st3 _ _ hg1, upd_same, hlen, put (S1.trans st3)⟩
        · cases D1 with
          | @tup q ys _ hq hA1 =>
            cases hA1 with
            | cons h1 h2 => cases h2 with
              | @cons va _ _ _ h3 h4 =>
                cases h4
                cases h1
                have e3 : [V.str "loop"] ++ txV (sgK a) = txV (sgS (.loop a)) := by
                  rw [sgS, ← sgK]
                  rfl
                have lw : (sgK a).length + 1 ≤ 100000 := by
                  have : (sgS (.loop a)).length = (sgK a).length + 1 := by simp [sgS, sgK]
                  omega
                refine ⟨_, rfl, q, _, 0, _, rfl, rfl, hq, atI_nat (j := 0) rfl, rfl, _, rfl, iteY rfl ?_⟩
                refine ⟨_, rfl, .inl ⟨rfl, _, SqL.of hg1⟩, sz (by simp), fun l1 n1 => ?_⟩
                have t1 := Same.new (o := .lst [V.str "loop"]) n1
                refine ⟨_, rfl, q, _, 1, _, rfl, rfl, (TStay.of t1).sq hq, atI_nat (j := 1) rfl, va, a, rfl, dt_stay (TStay.of t1) _ _ h3, hos, by omega, fun l2 H2 n2 t2 h2 => ?_⟩
                refine ⟨l1, l2, _, _, rfl, rfl, t2 _ _ upd_same, h2, by rw [txV_len]; exact sz (by simp; omega), fun l3 n3 => ?_⟩
                rw [e3]
                have st := (t1.trans t2).trans (Same.new (o := .lst (txV (sgS (.loop a)))) n3)
                exact ⟨g, l3, _, _, rfl, rfl, st _ _ hg1, upd_same, hlen, put (S1.trans st)⟩
        · obtain ⟨o1, o2, o3⟩ := hos
          cases D1 with
          | @tup q ys _ hq hA1 =>
            cases hA1 with
            | cons h1 h2 => cases h2 with
              | cons h3 h4 => cases h4 with
                | @cons va _ _ _ h5 h6 => cases h6 with
                  | @cons vb _ _ _ h7 h8 =>
                    cases h8
                    cases h1
                    cases h3
                    have e3 : [V.str "if", V.str (S x')] ++ txV (sgK a) ++ [V.str "else"] ++ txV (sgK c) = txV (sgS (.iff x' a c)) := by
                      rw [sgS, ← sgK, ← sgK, show kw "if" :: x' :: sgK a ++ kw "else" :: sgK c = [kw "if", x'] ++ sgK a ++ [kw "else"] ++ sgK c by simp, txV_app, txV_app, txV_app]
                      rfl
                    have lw : (sgK a).length + (sgK c).length + 3 ≤ 100000 := by
                      have : (sgS (.iff x' a c)).length = (sgK a).length + (sgK c).length + 3 := by simp [sgS, sgK]; omega
                      omega
                    refine ⟨_, rfl, q, _, 0, _, rfl, rfl, hq, atI_nat (j := 0) rfl, rfl, _, rfl, iteN (ne_str (by decide +kernel)) ?_⟩
                    refine ⟨_, rfl, q, _, 0, _, rfl, rfl, hq, atI_nat (j := 0) rfl, rfl, _, rfl, iteY rfl ?_⟩
                    refine ⟨_, rfl, .inl ⟨rfl, _, SqL.of hg1⟩, _, rfl, q, _, 1, _, rfl, rfl, hq, atI_nat (j := 1) rfl, sz (by simp), fun l1 n1 => ?_⟩
                    have t1 := Same.new (o := .lst [V.str "if", V.str (S x')]) n1
                    refine ⟨_, rfl, q, _, 2, _, rfl, rfl, (TStay.of t1).sq hq, atI_nat (j := 2) rfl, va, a, rfl, dt_stay (TStay.of t1) _ _ h5, o2, by omega, fun l2 H2 n2 t2 h2 => ?_⟩
                    refine ⟨l1, l2, _, _, rfl, rfl, t2 _ _ upd_same, h2, by rw [txV_len]; exact sz (by simp; omega), fun l3 n3 => ⟨sz (by simp), fun l4 n4 => ?_⟩⟩
                    have t4 := (Same.new (o := .lst ([V.str "if", V.str (S x')] ++ txV (sgK a))) n3).trans (Same.new (o := .lst [V.str "else"]) n4)
                    refine ⟨l3, l4, _, _, rfl, rfl, (Same.new n4) _ _ upd_same, upd_same, by rw [List.length_append, txV_len]; exact sz (by simp; omega), fun l5 n5 => ?_⟩
                    have t5 := (t1.trans t2).trans (t4.trans (Same.new (o := .lst ([V.str "if", V.str (S x')] ++ txV (sgK a) ++ [V.str "else"])) n5))
                    refine ⟨_, rfl, q, _, 3, _, rfl, rfl, (TStay.of t5).sq hq, atI_nat (j := 3) rfl, vb, c, rfl, dt_stay (TStay.of t5) _ _ h7, o3, by omega, fun l6 H6 n6 t6 h6 => ?_⟩
                    refine ⟨l5, l6, _, _, rfl, rfl, t6 _ _ upd_same, h6, by rw [List.length_append, List.length_append, txV_len, txV_len]; exact sz (by simp; omega), fun l7 n7 => ?_⟩
                    rw [e3]
                    have st := (t5.trans t6).trans (Same.new (o := .lst (txV (sgS (.iff x' a c)))) n7)
                    exact ⟨g, l7, _, _, rfl, rfl, st _ _ hg1, upd_same, hlen, put (S1.trans st)⟩
        · obtain ⟨o2, o3⟩ := hos
          cases D1 with
          | @tup q ys _ hq hA1 =>
            cases hA1 with
            | cons h1 h2 => cases h2 with
                | @cons va _ _ _ h5 h6 => cases h6 with
                  | @cons vb _ _ _ h7 h8 =>
                    cases h8
                    cases h1
                    have e3 : [V.str "try"] ++ txV (sgK a) ++ [V.str "catch"] ++ txV (sgK c) = txV (sgS (.tr a c)) := by
                      rw [sgS, ← sgK, ← sgK, show kw "try" :: sgK a ++ kw "catch" :: sgK c = [kw "try"] ++ sgK a ++ [kw "catch"] ++ sgK c by simp, txV_app, txV_app, txV_app]
                      rfl
                    have lw : (sgK a).length + (sgK c).length + 2 ≤ 100000 := by
                      have : (sgS (.tr a c)).length = (sgK a).length + (sgK c).length + 2 := by simp [sgS, sgK]; omega
                      omega
                    refine ⟨_, rfl, q, _, 0, _, rfl, rfl, hq, atI_nat (j := 0) rfl, rfl, _, rfl, iteN (ne_str (by decide +kernel)) ?_⟩
                    refine ⟨_, rfl, q, _, 0, _, rfl, rfl, hq, atI_nat (j := 0) rfl, rfl, _, rfl, iteN (ne_str (by decide +kernel)) ?_⟩
                    refine ⟨_, rfl, q, _, 0, _, rfl, rfl, hq, atI_nat (j := 0) rfl, rfl, _, rfl, iteY rfl ?_⟩
                    refine ⟨_, rfl, .inl ⟨rfl, _, SqL.of hg1⟩, sz (by simp), fun l1 n1 => ?_⟩
                    have t1 := Same.new (o := .lst [V.str "try"]) n1
                    refine ⟨_, rfl, q, _, 1, _, rfl, rfl, (TStay.of t1).sq hq, atI_nat (j := 1) rfl, va, a, rfl, dt_stay (TStay.of t1) _ _ h5, o2, by omega, fun l2 H2 n2 t2 h2 => ?_⟩
                    refine ⟨l1, l2, _, _, rfl, rfl, t2 _ _ upd_same, h2, by rw [txV_len]; exact sz (by simp; omega), fun l3 n3 => ⟨sz (by simp), fun l4 n4 => ?_⟩⟩
                    have t4 := (Same.new (o := .lst ([V.str "try"] ++ txV (sgK a))) n3).trans (Same.new (o := .lst [V.str "catch"]) n4)
                    refine ⟨l3, l4, _, _, rfl, rfl, (Same.new n4) _ _ upd_same, upd_same, by rw [List.length_append, txV_len]; exact sz (by simp; omega), fun l5 n5 => ?_⟩
                    have t5 := (t1.trans t2).trans (t4.trans (Same.new (o := .lst ([V.str "try"] ++ txV (sgK a) ++ [V.str "catch"])) n5))
                    refine ⟨_, rfl, q, _, 2, _, rfl, rfl, (TStay.of t5).sq hq, atI_nat (j := 2) rfl, vb, c, rfl, dt_stay (TStay.of t5) _ _ h7, o3, by omega, fun l6 H6 n6 t6 h6 => ?_⟩
                    refine ⟨l5, l6, _, _, rfl, rfl, t6 _ _ upd_same, h6, by rw [List.length_append, List.length_append, txV_len, txV_len]; exact sz (by simp; omega), fun l7 n7 => ?_⟩
                    rw [e3]
                    have st := (t5.trans t6).trans (Same.new (o := .lst (txV (sgS (.tr a c)))) n7)
                    exact ⟨g, l7, _, _, rfl, rfl, st _ _ hg1, upd_same, hlen, put (S1.trans st)⟩
        · obtain ⟨o1, o2⟩ := hos
          cases D1 with
          | @tup q ys _ hq hA1 =>
            cases hA1 with
            | @cons v0 _ _ _ h1 h2 => cases h2 with
              | @cons vb _ _ _ h5 h6 =>
                cases h6
                cases h1
                cases h5 with
                | @tup q2 zs _ hU hB =>
                  have ly := dtAll_len hB
                  have lz : zs.length = bs.length := by rw [ly, datL_len]
                  have eS : sgS (.ei bs) = sgE true bs := by rw [sgS]
                  rw [eS] at hst hle hlen put
                  refine ⟨_, rfl, q, _, 0, _, rfl, rfl, hq, atI_nat (j := 0) rfl, rfl, _, rfl, iteN (ne_str (by decide +kernel)) ?_⟩
                  refine ⟨_, rfl, q, _, 0, _, rfl, rfl, hq, atI_nat (j := 0) rfl, rfl, _, rfl, iteN (ne_str (by decide +kernel)) ?_⟩
                  refine ⟨_, rfl, q, _, 0, _, rfl, rfl, hq, atI_nat (j := 0) rfl, rfl, _, rfl, iteN (ne_str (by decide +kernel)) ?_⟩
                  refine ⟨_, rfl, q, _, 0, _, rfl, rfl, hq, atI_nat (j := 0) rfl, rfl, _, rfl, iteY rfl ?_⟩
                  refine ⟨_, rfl, q, _, 1, _, rfl, rfl, hq, atI_nat (j := 1) rfl, q2, zs, rfl, hU, for_it walk_enumT (fun j σ H2 => ∃ v3 v4 : Option V, σ = [some (.ref p), some (.ref g), some (.ref q), v3, v4] ∧ Same H H2 ∧ TStay H1 H2 ∧ H2 g = some (.lst (txV (sgB (b.take i)) ++ txV (sgE true (bs.take j)))))
                    ⟨_, _, rfl, S1, ⟨fun _ _ h => h, fun _ _ _ h => h⟩, by rw [hg1]; simp [sgE, txV]⟩ (fun _ _ _ _ h => h.choose_spec.choose_spec.2.2.1.sq hU) ?_ ?_⟩
                  · rintro j y σ H2 H3 hj ⟨v3, v4, rfl, S2, ts2, hg2⟩ ⟨T0, y1, y2, rfl, hT0, rfl, q1, q2'⟩
                    cases q1
                    obtain ⟨d2, hd2, Dy⟩ := dtAll_get hB q2'
                    obtain ⟨bb, hbb, rfl⟩ := datL_get hd2
                    have Dy := dt_stay ts2 _ _ Dy
                    have hE := sgE_take hbb
                    have hEl := sgE_le bs (j + 1)
                    rw [hE, List.length_append, List.length_cons] at hEl
                    have t3 := Same.new (o := .tup [V.int (j : Nat), y2]) hT0
                    refine ⟨T0, _, rfl, SqT.of upd_same, rfl, _, _, rfl, _, _, rfl, rfl, ?_⟩
                    refine ⟨_, rfl, .inl ⟨rfl, _, SqL.of (t3 _ _ hg2)⟩, _, rfl, rfl, _, rfl, ?_⟩
                    refine ite2 (fun hz => ?_) (fun hz => ?_)
                    · have hz' : j = 0 := by
                        have := V.int.inj (of_decide_eq_true hz)
                        omega
                      have hj0 : (if j = 0 then kw "either" else kw "or") = kw "either" := if_pos hz'
                      refine ⟨sz (by simp), fun l1 n1 => ?_⟩
                      have t1 := Same.new (o := .lst [V.str "either"]) n1
                      refine ⟨_, rfl, y2, bb, rfl, dt_stay (TStay.of (t3.trans t1)) _ _ Dy, o2 bb (List.mem_of_getElem? hbb), by omega, fun l2 H5 n2 t2 h2 => ?_⟩
                      refine ⟨l1, l2, _, _, rfl, rfl, t2 _ _ upd_same, h2, by rw [txV_len]; exact sz (by simp; omega), fun l3 n3 => ?_⟩
                      have st := (t3.trans t1).trans (t2.trans (Same.new (o := .lst ([V.str "either"] ++ txV (sgK bb))) n3))
                      have hg5 := st _ _ hg2
                      refine ⟨g, l3, _, _, rfl, rfl, hg5, upd_same, ?_, _, _, rfl, fun a o e => ?_, TStay.trans ts2 (TStay.trans (TStay.of st) (TStay.lst hg5)), ?_⟩
                      · rw [List.length_append, List.length_append, txV_len, txV_len, txV_len]
                        exact sz (by simp; omega)
                      · rw [upd_ne (ne_of_none e ng)]
                        exact st _ _ (S2 _ _ e)
                      · rw [upd_same, hE, txV_app, hj0, List.append_assoc]
                        rfl
                    · have hz' : ¬ j = 0 := fun e => by
                        subst e
                        exact hz (by decide)
                      have hj0 : (if j = 0 then kw "either" else kw "or") = kw "or" := if_neg hz'
                      refine ⟨sz (by simp), fun l1 n1 => ?_⟩
                      have t1 := Same.new (o := .lst [V.str "or"]) n1
                      refine ⟨_, rfl, y2, bb, rfl, dt_stay (TStay.of (t3.trans t1)) _ _ Dy, o2 bb (List.mem_of_getElem? hbb), by omega, fun l2 H5 n2 t2 h2 => ?_⟩
                      refine ⟨l1, l2, _, _, rfl, rfl, t2 _ _ upd_same, h2, by rw [txV_len]; exact sz (by simp; omega), fun l3 n3 => ?_⟩
                      have st := (t3.trans t1).trans (t2.trans (Same.new (o := .lst ([V.str "or"] ++ txV (sgK bb))) n3))
                      have hg5 := st _ _ hg2
                      refine ⟨g, l3, _, _, rfl, rfl, hg5, upd_same, ?_, _, _, rfl, fun a o e => ?_, TStay.trans ts2 (TStay.trans (TStay.of st) (TStay.lst hg5)), ?_⟩
                      · rw [List.length_append, List.length_append, txV_len, txV_len, txV_len]
                        exact sz (by simp; omega)
                      · rw [upd_ne (ne_of_none e ng)]
                        exact st _ _ (S2 _ _ e)
                      · rw [upd_same, hE, txV_app, hj0, List.append_assoc]
                        rfl
                  · rintro σ H2 ⟨v3, v4, rfl, S2, ts2, hg2⟩
                    have e0 : bs.take zs.length = bs := List.take_of_length_le (by rw [lz]; exact Nat.le_refl _)
                    rw [e0] at hg2
                    exact ⟨_, _, _, rfl, S2, by rw [hg2, hst, txV_app]⟩
      · rintro σ H1 ⟨v2, v3, v4, rfl, S1, hg1⟩
        have e0 : b.take xs.length = b := List.take_of_length_le (by rw [lx, datB_len]; exact Nat.le_refl _)
        rw [e0] at hg1
        exact ⟨_, rfl, k g H1 ng S1 hg1⟩
theorem law_signs (T : Txt K mg Z) : ∀ n, Cal P w K mg base (2 * n + 1) "_law_curly" (spCu K (okK n)) [] ∧ Cal P w K mg base (2 * n + 2) "_law_signs" (spSg K (okK n)) []
  | 0 => by
    have c := c__law_curly0 (P := P) (w := w) (base := base) T
    exact ⟨c, c__law_signs T c⟩
  | n + 1 => by
    obtain ⟨_, ih⟩ := law_signs T n
    have c := c__law_curlyS T ih
    exact ⟨c, c__law_signs T c⟩
end

/-! ### 13. the law's spreading of the signs, with their places -/
inductive SpP : Nat → List Nat → List Tok → Prop
  | nil {o : Nat} : SpP o [] []
  | blank {o c : Nat} {l : List Nat} {ts : List Tok} : blC c = true → SpP (o + 1) l ts → SpP o (c :: l) ts
  | sign {o c : Nat} {l : List Nat} {ts : List Tok} : blC c = false → isL c = false → SpP (o + 1) l ts → SpP o (c :: l) ((o, [c]) :: ts)
  | word {o c : Nat} {w l : List Nat} {ts : List Tok} : (∀ x ∈ c :: w, isL x = true) → (∀ x, l.head? = some x → isL x = false) → SpP (o + (c :: w).length) l ts → SpP o ((c :: w) ++ l) ((o, c :: w) :: ts)
theorem SpP.spells {o : Nat} {l : List Nat} {ts : List Tok} (h : SpP o l ts) : Spells l (txs ts) := by
  induction h with
  | nil => exact .nil
  | blank hb _ ih => exact .blank hb ih
  | sign hb hl _ ih => exact .sign hb hl ih
  | word hw hl _ ih => exact .word hw hl ih
theorem tokF_sp {o : Nat} {l : List Nat} {ts : List Tok} (h : SpP o l ts) : ∀ (a : List Nat) (f : Nat), a.drop o = l → a.length ≤ o + f → tokF a f o = ts := by
  induction h with
  | @nil i =>
    intro a f hd hf
    have : a.length ≤ i := List.drop_eq_nil_iff.mp hd
    cases f with
    | zero => rfl
    | succ f =>
      unfold tokF
      rw [if_neg (by omega)]
  | @blank i c l ts hb h ih =>
    intro a f hd hf
    obtain ⟨h1, h2, h3⟩ := drop_at hd
    obtain ⟨f, rfl⟩ : ∃ g, f = g + 1 := ⟨f - 1, by omega⟩
    unfold tokF
    rw [if_pos h1, h2]
    simp only [Option.elim_some, hb, if_true]
    rw [tokEnd_one h2 (bl_letter hb)]
    exact ih a f h3 (by omega)
  | @sign i c l ts hb hl h ih =>
    intro a f hd hf
    obtain ⟨h1, h2, h3⟩ := drop_at hd
    obtain ⟨f, rfl⟩ : ∃ g, f = g + 1 := ⟨f - 1, by omega⟩
    unfold tokF
    rw [if_pos h1, h2]
    simp only [Option.elim_some, hb, Bool.false_eq_true, if_false]
    rw [tokEnd_one h2 hl, hd, show i + 1 - i = 1 by omega]
    show (i, [c]) :: tokF a f (i + 1) = _
    rw [ih a f h3 (by omega)]
  | @word i c w l ts hw hl h ih =>
    intro a f hd hf
    obtain ⟨h1, h2, h3⟩ := drop_at hd
    obtain ⟨f, rfl⟩ : ∃ g, f = g + 1 := ⟨f - 1, by omega⟩
    have h3 : a.drop (i + 1) = w ++ l := h3
    have hc := hw c (by simp)
    have e : tokEnd a i = i + (c :: w).length := by
      unfold tokEnd
      rw [h2]
      simp only [Option.elim_some, hc, if_true]
      rw [h3, takeWhile_word (w := w) (fun x hx => hw x (List.mem_cons_of_mem _ hx)) hl]
      simp
      omega
    unfold tokF
    rw [if_pos h1, h2]
    simp only [Option.elim_some, letter_bl hc, Bool.false_eq_true, if_false]
    rw [e, hd, show i + (c :: w).length - i = (c :: w).length by omega]
    have e2 : ((c :: w) ++ l).take (c :: w).length = c :: w := List.take_left
    have e3 : (c :: (w ++ l)).take (c :: w).length = c :: w := e2
    show (i, (c :: (w ++ l)).take (c :: w).length) :: tokF a f (i + (c :: w).length) = _
    rw [e3, ih a f ?_ ?_]
    · rw [← List.drop_drop, hd]
      exact List.drop_left
    · simp
      omega
theorem toks_sp {a : List Nat} {ts : List Tok} (h : SpP 0 a ts) : toks a = ts := tokF_sp h a a.length (by simp) (by omega)
theorem SpP.blanks {o : Nat} {l : List Nat} {ts : List Tok} : ∀ bs : List Nat, (∀ c ∈ bs, blC c = true) → SpP (o + bs.length) l ts → SpP o (bs ++ l) ts
  | [], _, h => h
  | c :: bs, hb, h => .blank (hb c (by simp)) (SpP.blanks bs (fun x hx => hb x (by simp [hx])) (by rw [show o + 1 + bs.length = o + (c :: bs).length by simp; omega]; exact h))
theorem SpP.tok {o : Nat} {t l : List Nat} {ts : List Tok} (h : SpP (o + t.length) l ts) (ht : IsTok t) (hl : (∃ c, t = [c] ∧ isL c = false) ∨ NoL l) : SpP o (t ++ l) ((o, t) :: ts) := by
  rcases ht with ⟨hn, hw⟩ | ⟨c, rfl, h1, h2⟩
  · rcases hl with ⟨c, rfl, h2⟩ | hl
    · rw [hw c (by simp)] at h2
      cases h2
    · cases t with
      | nil => exact absurd rfl hn
      | cons c w => exact .word hw hl h
  · exact .sign h1 h2 h
def EndL (a : List Nat) : Prop := ∃ c, a.getLast? = some c ∧ isL c = true
def Pre (a : List Nat) (us : List Tok) : Prop := ∀ l r, SpP a.length l r → (EndL a → NoL l) → SpP 0 (a ++ l) (us ++ r)
theorem isL_alpha : ∀ c, c < 128 → isL c = true → Unicode.isAlpha c = true := by decide +kernel
theorem alpha_S {t : List Nat} (hn : t ≠ []) (h : ∀ x ∈ t, isL x = true) : Txt.isalpha (S t) = true := by
  unfold Txt.isalpha
  rw [Bool.and_eq_true]
  refine ⟨?_, ?_⟩
  · rw [S_len, decide_eq_true_eq]
    exact List.length_pos_iff.mpr hn
  · rw [Array.all_eq_true_iff_forall_mem]
    intro c hc
    have hc : c ∈ t := by simpa using hc
    exact isL_alpha c (isL_lt (h c hc)) (h c hc)
theorem endL_nil : ¬ EndL [] := fun ⟨_, h, _⟩ => by cases h
theorem endL_bl {a g : List Nat} (hg : g ≠ []) (hb : ∀ c ∈ g, blC c = true) : ¬ EndL (a ++ g) := fun ⟨c, h, hl⟩ => by
  have hm : c ∈ g := by
    cases hg' : g.getLast? with
    | none => exact absurd (List.getLast?_eq_none_iff.mp hg') hg
    | some d =>
      rw [List.getLast?_append, hg'] at h
      cases h
      exact List.mem_of_getLast? hg'
  rw [bl_letter (hb c hm)] at hl
  cases hl
theorem pre_blank {g : List Nat} (hb : ∀ c ∈ g, blC c = true) : Pre g [] := fun l r h _ => SpP.blanks g hb (by rwa [Nat.zero_add])
theorem noL_app {t l : List Nat} (hn : t ≠ []) (h : NoL t) : NoL (t ++ l) := fun x e => by
  cases t with
  | nil => exact absurd rfl hn
  | cons c t => exact h x e
theorem tok_ne {t : List Nat} (h : IsTok t) : t ≠ [] := by
  rcases h with h | ⟨c, rfl, _⟩
  · exact h.1
  · simp
theorem Pre.step {a t g : List Nat} {us : List Tok} (h : Pre a us) (ht : IsTok t) (hb : ∀ c ∈ g, blC c = true) (hs : EndL a → NoL t) : Pre (a ++ t ++ g) (us ++ [(a.length, t)]) := fun l r hl hn => by
  have h1 : SpP a.length (t ++ (g ++ l)) ((a.length, t) :: r) := by
    refine (SpP.blanks g hb (by rw [show a.length + t.length + g.length = (a ++ t ++ g).length by simp; omega]; exact hl)).tok ht ?_
    rcases ht with ⟨hne, hw⟩ | ⟨c, rfl, h1, h2⟩
    · right
      by_cases e : g = []
      · subst e
        refine hn ?_
        rw [List.append_nil]
        refine ⟨t.getLast hne, ?_, hw _ (List.getLast_mem hne)⟩
        rw [List.getLast?_append, List.getLast?_eq_some_getLast hne]
        rfl
      · intro x hx
        cases g with
        | nil => exact absurd rfl e
        | cons d g =>
          have hx : some d = some x := hx
          cases hx
          exact bl_letter (hb x (by simp))
    · exact .inl ⟨c, rfl, h2⟩
  have := h (t ++ (g ++ l)) ((a.length, t) :: r) h1 (fun e => noL_app (tok_ne ht) (hs e))
  rw [List.append_assoc, List.append_assoc, List.append_assoc, List.singleton_append]
  exact this
theorem Pre.sp {a : List Nat} {us : List Tok} (h : Pre a us) : Pre (a ++ [32]) us := fun l r hl _ => by
  rw [List.append_assoc]
  exact h _ _ (.blank (by decide +kernel) (by rw [List.length_append] at hl; exact hl)) (fun _ => noL_cons (by decide +kernel))
theorem endL_sp {a : List Nat} : ¬ EndL (a ++ [32]) := endL_bl (by simp) (fun c hc => by cases List.mem_singleton.mp hc; decide +kernel)
theorem endL_slice {a : List Nat} (h : EndL a) : Txt.isalpha (Txt.slice (S a) (some (-1)) none) = true := by
  obtain ⟨c, h1, h2⟩ := h
  have hn : a ≠ [] := fun e => by rw [e] at h1; cases h1
  have e : a.drop (a.length - 1) = [c] := by
    have e1 : a = a.dropLast ++ [a.getLast hn] := (List.dropLast_concat_getLast hn).symm
    rw [List.getLast?_eq_some_getLast hn] at h1
    rw [Option.some.inj h1] at e1
    have e2 : a.length - 1 = a.dropLast.length := by rw [List.length_dropLast]
    rw [e2]
    conv => lhs; rw [e1]
    simp
  rw [SX.slice_last hn, e]
  exact alpha_S (by simp) (fun x hx => by cases List.mem_singleton.mp hx; exact h2)
theorem bl_list {xs : List V} (h : xs.all (okStem blC 3) = true) {v : V} (hv : v ∈ xs) : ∃ g, v = .str (S g) ∧ g.length ≤ 3 ∧ ∀ c ∈ g, blC c = true := by
  obtain ⟨g, rfl, h1, h2⟩ := okStem_spec (List.all_eq_true.mp h v hv)
  exact ⟨g, rfl, h1, List.all_eq_true.mp h2⟩
def plV (us : List Tok) : List V := us.map fun u => V.int (u.1 : Nat)
theorem plV_snoc (us : List Tok) (n : Nat) (t : List Nat) : plV us ++ [V.int (n : Nat)] = plV (us ++ [(n, t)]) := by simp [plV]
section
variable {P : Program} {w : World} {K : PySem.W.Frag} {mg : Str → Option Value} {base : Heap} {Z : Addrs}
def spSpread : Sp := fun vs H Q _ => ∃ (b p : Addr) (ts : List (List Nat)), vs = [.ref b, .ref p] ∧ BagAt H b ∧ p ≠ b ∧ H p = some (.lst (txV ts)) ∧ (∀ t ∈ ts, IsTok t ∧ t.length ≤ 9) ∧ ts.length ≤ 2000 ∧
  ∀ (a : List Nat) (us : List Tok) (q x : Addr) H', SpP 0 a us → txs us = ts → a.length ≤ 13 * ts.length + 3 → H' q = some (.tup [.str (S a), .ref x]) → H' x = some (.lst (plV us)) → H x = none → Upto b H H' → BagAt H' b → Q (.ref q) H'
theorem c__law_spread (T : Txt K mg Z) : Cal P w K mg base 3 "_law_spread" spSpread [] := by
  have c__law_one : Cal P w K mg base 2 "_law_one" (spOne K) [] := c__law_one T
  refine cal_of T.d__law_spread sc__law_spread (fun vs H Q E h => ?_) (fun f cdv A outer s H vs Q E hr h => ?_)
  · obtain ⟨b, p, ts, rfl, _⟩ := h
    rfl
  · obtain ⟨b, p, ts, rfl, B, hpb, hp, htk, hlen, k⟩ := h
    refine ⟨_, (pss_cons (ps_par (i := 2) (j := 3) (by rfl) sc__law_spread.nd rfl rfl (by decide) rfl rfl (pa_cons (pe_c c__law_one hr (by omega) rfl (pa_cons (pv 0) (pa_cons (pe_lst (pa_cons pe_str (pa_cons pe_str (pa_cons pe_str pa_nil)))) pa_nil))) (pa_cons (pe_lst pa_nil) pa_nil)) (by rfl))
      (pss_cons (ps_for PassesOwn.never rfl (pi_enum rfl T.b_enumerate (pa_cons (pv 1) pa_nil)) (pg_tup (by rfl) (pgs_cons (pg_name (i := 4) sc__law_spread.nd rfl (by first | exact Or.inl rfl | exact Or.inr rfl)) (pgs_cons (pg_name (i := 5) sc__law_spread.nd rfl (by first | exact Or.inl rfl | exact Or.inr rfl)) pgs_nil))) (pss_cons (ps_expr (pe_bm PySem.F.plainAttrs_list PySem.F.slot_list_append PySem.F.type_list_append mt_append (pv 3) (pa_cons (pe_callB call_len_str (by rfl) T.b_len (by decide +kernel) (pa_cons (pv 2) pa_nil)) pa_nil)))
      (pss_cons (ps_set (i := 2) sc__law_spread.nd rfl (by first | exact Or.inl rfl | exact Or.inr rfl) (pe_op op_add_str (pe_op op_add_str (pv 2) (pv 5)) (pe_c c__law_one hr (by omega) rfl (pa_cons (pv 0) (pa_cons (pe_lst (pa_cons pe_str (pa_cons pe_str (pa_cons pe_str (pa_cons pe_str (pa_cons pe_str pa_nil)))))) pa_nil)))))
      (pss_one (ps_if (PW.pt (pw_and (pt_cmpR op_lt (pe_op op_add (pv 4) pe_int) (pe_callB call_len_seq (by rfl) T.b_len (by decide +kernel) (pa_cons (pv 1) pa_nil)) (nomark _)) (pw_and (pt_val (pe_bm0 PySem.F.plainAttrs_str PySem.F.slot_str_isalpha PySem.F.type_str_isalpha mt_isalpha (pe_slice C8.sl_txt (pv 2) (po_some (pe_un un_neg pe_int)) po_none))) (pw_and1 (pt_val (pe_bm0 PySem.F.plainAttrs_str PySem.F.slot_str_isalpha PySem.F.type_str_isalpha mt_isalpha (pe_ix ix_list (pv 1) (pe_op op_add (pv 4) pe_int) (fun _ _ => rfl)))))))) (pss_one (ps_set (i := 2) sc__law_spread.nd rfl (by first | exact Or.inl rfl | exact Or.inr rfl) (pe_op op_add_str (pv 2) pe_str))) pss_nil)))))
      (pss_one (ps_ret (pe_tup (pa_cons (pv 2) (pa_cons (pv 3) pa_nil))))))), ?_⟩
    refine ⟨_, rfl, by decide, fun q0 n0 => ⟨b, q0, _, rfl, B.upd (bagNe B n0), bagNe B n0, upd_same, by decide, by decide, fun v H1 hv u1 B1 => ⟨by decide, fun g ng => ⟨_, _, rfl, ?_⟩⟩⟩⟩
    obtain ⟨a0, rfl, l0, b0⟩ := bl_list (by decide +kernel) hv
    have U1 : Upto b H H1 := (Upto.new n0).trans u1
    have gb := bagNe B1 ng
    have hp1 : H1 p = some (.lst (txV ts)) := U1 _ _ hpb hp
    have gp : p ≠ g := ne_of_none hp1 ng
    have ng0 : H g = none := none_upto U1 ng gb
    refine ⟨_, rfl, p, _, rfl, SqL.of (by rw [upd_ne gp]; exact hp1), ?_⟩
    refine for_it walk_enum (fun j σ H2 => ∃ (a : List Nat) (us : List Tok) (v4 v5 : Option V), σ = [some (.ref b), some (.ref p), some (.str (S a)), some (.ref g), v4, v5] ∧ Pre a us ∧ txs us = ts.take j ∧ (∀ t, ts[j]? = some t → EndL a → NoL t) ∧ a.length ≤ 13 * j + 3 ∧
      H2 g = some (.lst (plV us)) ∧ H2 p = some (.lst (txV ts)) ∧ Upto b H H2 ∧ BagAt H2 b)
      ⟨a0, [], none, none, rfl, pre_blank b0, rfl, fun t _ e => ?_, by omega, upd_same, by rw [upd_ne gp]; exact hp1, Upto.upd U1 ng0, B1.upd gb⟩ (fun _ _ _ _ h => SqL.of h.choose_spec.choose_spec.choose_spec.choose_spec.2.2.2.2.2.2.1) ?_ ?_
    · cases a0 with
      | nil => exact absurd e endL_nil
      | cons c a0 => exact absurd e (endL_bl (a := []) (by simp) b0)
    · rintro j y σ H2 H3 hj ⟨a, us, v4, v5, rfl, hP, hus, hE, hl, hg, hp2, u2, B2⟩ ⟨T0, y1, y2, rfl, hT0, rfl, q1, q2⟩
      cases q1
      obtain ⟨t, ht, rfl⟩ : ∃ t, ts[j]? = some t ∧ y2 = .str (S t) := by
        have : (txV ts)[j]? = some y2 := q2
        simp only [txV, List.getElem?_map] at this
        cases e : ts[j]? with
        | none => rw [e] at this; cases this
        | some t => rw [e] at this; cases this; exact ⟨t, rfl, rfl⟩
      obtain ⟨tk1, tk2⟩ := htk t (List.mem_of_getElem? ht)
      have hj2 : j < ts.length := (List.getElem?_eq_some_iff.mp ht).1
      have t3 := Same.new (o := .tup [V.int (j : Nat), V.str (S t)]) hT0
      have hg3 := t3 _ _ hg
      have B3 := B2.same t3
      have hpl : (plV us).length ≤ 2000 := by
        have e : (txs us).length = us.length := by simp [txs]
        rw [hus, List.length_take] at e
        simp only [plV, List.length_map]
        omega
      have gb3 : g ≠ b := gb
      refine ⟨T0, _, rfl, SqT.of upd_same, rfl, _, _, rfl, _, _, rfl, rfl, ?_⟩
      refine ⟨_, rfl, .inl ⟨rfl, _, SqL.of hg3⟩, _, rfl, S a, rfl, szl (by omega), g, _, _, rfl, rfl, hg3, Nat.lt_of_le_of_lt hpl (by decide), ?_⟩
      refine ⟨_, rfl, _, rfl, _, _, rfl, rfl, by rw [S_len, S_len]; exact sz (by omega), ?_⟩
      rw [S_cat]
      have B4 := B3.upd (o := .lst (plV us ++ [V.int (S a).length])) gb3
      refine ⟨_, rfl, by decide, fun q nq => ⟨b, q, _, rfl, B4.upd (bagNe B4 nq), bagNe B4 nq, upd_same, by decide, by decide, fun v H5 hv u5 B5 => ?_⟩⟩
      obtain ⟨w1, rfl, l1, b1⟩ := bl_list (by decide +kernel) hv
      refine ⟨_, _, rfl, rfl, by rw [S_len, S_len]; exact sz (by simp; omega), ?_⟩
      rw [S_cat]
      have hp5 : H5 p = some (.lst (txV ts)) := u5 _ _ hpb ((Same.new nq) _ _ (by rw [upd_ne gp]; exact t3 _ _ hp2))
      have hg5 : H5 g = some (.lst (plV (us ++ [(a.length, t)]))) := by
        have h : H5 g = some (.lst (plV us ++ [V.int (S a).length])) := u5 _ _ gb ((Same.new nq) _ _ upd_same)
        rw [S_len, plV_snoc us a.length t] at h
        exact h
      have U5 : Upto b H H5 := (Upto.upd (u2.trans (Upto.of t3)) ng0).trans ((Upto.new nq).trans u5)
      have P5 := hP.step tk1 b1 (hE t ht)
      have ets : ts.take (j + 1) = ts.take j ++ [t] := by rw [List.take_add_one, ht]; rfl
      have hus5 : txs (us ++ [(a.length, t)]) = ts.take (j + 1) := by rw [ets, ← hus]; simp [txs]
      have l5 : (a ++ t ++ w1).length ≤ 13 * (j + 1) + 2 := by simp; omega
      refine ⟨_, rfl, _, _, rfl, rfl, _, rfl, p, _, rfl, .inl (SqL.of hp5), _, _, rfl, rfl, _, rfl, ?_⟩
      refine ite2 (fun h1 => ?_) (fun h1 => ?_)
      · have h1 : (j : Int) + 1 < ((txV ts).length : Int) := of_decide_eq_true h1
        rw [txV_len] at h1
        have hj3 : j + 1 < ts.length := by omega
        obtain ⟨t', ht'⟩ : ∃ t', ts[j + 1]? = some t' := ⟨_, List.getElem?_eq_getElem hj3⟩
        obtain ⟨tk3, _⟩ := htk t' (List.mem_of_getElem? ht')
        have res : (EndL (a ++ t ++ w1) → NoL t') → ∃ (a' : List Nat) (us' : List Tok) (v4 v5 : Option V), [some (.ref b), some (.ref p), some (.str (S (a ++ t ++ w1))), some (.ref g), some (.int (j : Nat)), some (.str (S t))] = [some (.ref b), some (.ref p), some (.str (S a')), some (.ref g), v4, v5] ∧ Pre a' us' ∧ txs us' = ts.take (j + 1) ∧ (∀ t, ts[j + 1]? = some t → EndL a' → NoL t) ∧ a'.length ≤ 13 * (j + 1) + 3 ∧
            H5 g = some (.lst (plV us')) ∧ H5 p = some (.lst (txV ts)) ∧ Upto b H H5 ∧ BagAt H5 b := fun h => ⟨a ++ t ++ w1, _, _, _, rfl, P5, hus5, (fun t2 e2 => by rw [ht'] at e2; cases e2; exact h), by omega, hg5, hp5, U5, B5⟩
        refine ⟨_, rfl, 1, rfl, _, rfl, S (a ++ t ++ w1), rfl, szl (by omega), rfl, _, rfl, rfl, trivial, _, rfl, ?_⟩
        refine ite2 (fun h2 => ?_) (fun h2 => ?_)
        · refine ⟨_, rfl, _, rfl, _, _, rfl, rfl, p, _, (j : Int) + 1, .str (S t'), rfl, rfl, SqL.of hp5, ?_, rfl, _, rfl, rfl, trivial, _, rfl, ?_⟩
          · show atI (txV ts) (((j + 1 : Nat)) : Int) = _
            exact atI_nat (by simp [txV, ht'])
          refine ite2 (fun h3 => ?_) (fun h3 => ?_)
          · have e1 : (" " : Str) = S [32] := by decide +kernel
            refine ⟨_, rfl, _, _, rfl, rfl, by rw [S_len]; exact sz (by rw [show (" " : Str).length = 1 by decide +kernel]; omega), ?_⟩
            rw [e1, S_cat]
            exact ⟨a ++ t ++ w1 ++ [32], _, _, _, rfl, P5.sp, hus5, (fun t2 _ e => absurd e endL_sp), by rw [List.length_append, List.length_singleton]; omega, hg5, hp5, U5, B5⟩
          · refine res fun _ => ?_
            rcases tk3 with ⟨hne, hw⟩ | ⟨c, rfl, _, hc⟩
            · exact absurd (alpha_S hne hw) h3
            · exact noL_cons hc
        · exact res fun e => absurd (endL_slice e) h2
      · have h1 : ¬ ((j : Int) + 1 < ((txV ts).length : Int)) := fun e => h1 (decide_eq_true e)
        rw [txV_len] at h1
        have hn : ts[j + 1]? = none := List.getElem?_eq_none (by omega)
        exact ⟨a ++ t ++ w1, _, _, _, rfl, P5, hus5, (fun t' ht' => by rw [hn] at ht'; cases ht'), by omega, hg5, hp5, U5, B5⟩
    · rintro σ H2 ⟨a, us, v4, v5, rfl, hP, hus, hE, hl, hg, hp2, u2, B2⟩
      rw [txV_len] at hus hl
      rw [List.take_length] at hus
      refine ⟨_, rfl, _, rfl, sz (by simp), fun q nq => ?_⟩
      have st := Same.new (o := .tup [V.str (S a), V.ref g]) nq
      have sp := hP [] [] .nil (fun _ x hx => by cases hx)
      rw [List.append_nil, List.append_nil] at sp
      exact k a us q g _ sp hus hl upd_same (st _ _ hg) ng0 (u2.trans (Upto.of st)) (B2.same st)
end

/-! ### 14. how long texts are; tokens -/
theorem join_le {s : List Nat} : ∀ r : List (List Nat), (TL.joinL s r).length ≤ (r.map (·.length)).sum + r.length * s.length
  | [] => by simp [TL.joinL]
  | p :: r => by
    have ih := join_le (s := s) r
    rw [join_cons]
    cases r with
    | nil => simp
    | cons q r =>
      rw [List.isEmpty_cons, if_neg Bool.false_ne_true, List.length_append, List.length_append, List.map_cons, List.sum_cons, List.length_cons (as := q :: r), Nat.succ_mul]
      omega
def lnL (b : List Stp) : Nat := ((wrL b).map (·.length)).sum + (wrL b).length
theorem wrB_ln (b : List Stp) : (wrB b).length ≤ lnL b := by
  have := join_le (s := [32]) (wrL b)
  simpa [wrB, lnL] using this
theorem blk_ln (b : List Stp) : (blkT (wrL b)).length ≤ 4 + lnL b := by
  unfold blkT
  have l1 : (kw "{ }").length = 3 := by decide +kernel
  have l2 : (kw "{ ").length = 2 := by decide +kernel
  have l3 : (kw " }").length = 2 := by decide +kernel
  have := wrB_ln b
  unfold wrB at this
  split
  · omega
  · rw [List.length_append, List.length_append, l2, l3]
    omega
def GoodK (okk : List Stp → Prop) : Prop := ∀ b, okk b → (∀ t ∈ sgB b, IsTok t ∧ t.length ≤ 8) ∧ (sgB b).length ≤ 6 * wtB b ∧ lnL b ≤ 30 * wtB b
theorem tok_kw {x : Str} (h : wOk x = true) (h8 : (kw x).length ≤ 8) : IsTok (kw x) ∧ (kw x).length ≤ 8 := ⟨.inl (kw_ok h), h8⟩
theorem tok_brace : (IsTok (kw "{") ∧ (kw "{").length ≤ 8) ∧ (IsTok (kw "}") ∧ (kw "}").length ≤ 8) ∧ (IsTok (kw ";") ∧ (kw ";").length ≤ 8) := by
  have e1 : kw "{" = [123] := by decide +kernel
  have e2 : kw "}" = [125] := by decide +kernel
  have e3 : kw ";" = [59] := by decide +kernel
  rw [e1, e2, e3]
  exact ⟨⟨.inr ⟨123, rfl, by decide +kernel, by decide +kernel⟩, by decide⟩, ⟨.inr ⟨125, rfl, by decide +kernel, by decide +kernel⟩, by decide⟩, ⟨.inr ⟨59, rfl, by decide +kernel, by decide +kernel⟩, by decide⟩⟩
theorem word_8 {a : List Nat} (h : wordL a = true) : a.length ≤ 8 := by
  simp only [wordL, Bool.and_eq_true, decide_eq_true_eq] at h
  omega
theorem class_8 {a : List Nat} (h : classL a = true) : a.length ≤ 8 := by
  simp only [classL, Bool.and_eq_true, decide_eq_true_eq] at h
  omega
theorem step_8 {w : List Nat} (h : inV (.str (S w)) stepV = true) : w.length ≤ 6 := by
  have : stepV.all (fun v => match v with | .str x => decide (x.length ≤ 6) | _ => false) = true := by decide +kernel
  have h' : stepV.any (fun v => eqV v (.str (S w))) = true := h
  obtain ⟨v, hv, he⟩ := List.any_eq_true.mp h'
  have h2 := List.all_eq_true.mp this v hv
  cases v with
  | str x =>
    simp only [eqV, beq_iff_eq] at he
    rw [he] at h2
    have h2 := of_decide_eq_true h2
    rwa [S_len] at h2
  | _ => cases h2
theorem sgK_good {okk : List Stp → Prop} (G : GoodK okk) {b : List Stp} (h : okk b) : (∀ t ∈ sgK b, IsTok t ∧ t.length ≤ 8) ∧ (sgK b).length ≤ 6 * wtB b + 2 := by
  obtain ⟨h1, h2, _⟩ := G b h
  refine ⟨fun t ht => ?_, by simp [sgK]; omega⟩
  simp only [sgK, List.mem_cons, List.mem_append, List.not_mem_nil, or_false] at ht
  rcases ht with rfl | ht | rfl
  · exact tok_brace.1
  · exact h1 t ht
  · exact tok_brace.2.1
theorem ei_good {okk : List Stp → Prop} (G : GoodK okk) : ∀ (f : Bool) (bs : List (List Stp)), (∀ b ∈ bs, okk b) → (∀ t ∈ sgE f bs, IsTok t ∧ t.length ≤ 8) ∧ (sgE f bs).length ≤ 6 * wtL bs ∧ ((wrK bs).map (·.length)).sum + (wrK bs).length * 4 ≤ 30 * wtL bs
  | _, [], _ => ⟨fun _ h => absurd h (List.not_mem_nil), Nat.zero_le _, by simp [wrK]⟩
  | f, b :: bs, h => by
    obtain ⟨i1, i2, i3⟩ := ei_good G false bs fun c hc => h c (by simp [hc])
    obtain ⟨k1, k2⟩ := sgK_good G (h b (by simp))
    obtain ⟨_, _, k3⟩ := G b (h b (by simp))
    have kb := blk_ln b
    have e : sgE f (b :: bs) = (if f then kw "either" else kw "or") :: (sgK b ++ sgE false bs) := by simp [sgE, sgK]
    rw [e]
    refine ⟨fun t ht => ?_, ?_, ?_⟩
    · rcases List.mem_cons.mp ht with rfl | ht
      · cases f
        · exact tok_kw (x := "or") (by decide +kernel) (by decide +kernel)
        · exact tok_kw (x := "either") (by decide +kernel) (by decide +kernel)
      · exact (List.mem_append.mp ht).elim (k1 t) (i1 t)
    · simp only [List.length_cons, List.length_append, wtL]
      omega
    · simp only [wrK, List.map_cons, List.sum_cons, List.length_cons, wtL]
      omega
theorem goodS {okk : List Stp → Prop} (G : GoodK okk) (s : Stp) (h : okSt okk s) : (∀ t ∈ sgS s, IsTok t ∧ t.length ≤ 8) ∧ (sgS s).length ≤ 6 * wtS s ∧ (wrS s).length + 1 ≤ 30 * wtS s := by
  cases s with
  | word w x =>
    have hw := (with_ne h.1).1
    have l1 := step_8 hw
    have l2 := word_8 h.2
    refine ⟨fun t ht => ?_, by simp [sgS, wtS], by simp [wrS, wtS]; omega⟩
    simp only [sgS, List.mem_cons, List.not_mem_nil, or_false] at ht
    rcases ht with rfl | rfl | rfl
    · exact ⟨.inl (with_tok hw), by omega⟩
    · exact ⟨.inl (word_tok h.2), l2⟩
    · exact tok_brace.2.2
  | cls w x =>
    have hw := (class_ne h.1).1
    have l1 := step_8 hw
    have l2 := class_8 h.2
    refine ⟨fun t ht => ?_, by simp [sgS, wtS], by simp [wrS, wtS]; omega⟩
    simp only [sgS, List.mem_cons, List.not_mem_nil, or_false] at ht
    rcases ht with rfl | rfl | rfl
    · exact ⟨.inl (with_tok hw), by omega⟩
    · exact ⟨.inl (class_tok h.2), l2⟩
    · exact tok_brace.2.2
  | bare w =>
    have hw := (bare_ne h).1
    have l1 := step_8 hw
    refine ⟨fun t ht => ?_, by simp [sgS, wtS], by simp [wrS, wtS]; omega⟩
    simp only [sgS, List.mem_cons, List.not_mem_nil, or_false] at ht
    rcases ht with rfl | rfl
    · exact ⟨.inl (with_tok hw), by omega⟩
    · exact tok_brace.2.2
  | loop b =>
    obtain ⟨k1, k2⟩ := sgK_good G h
    obtain ⟨_, _, k3⟩ := G b h
    have kb := blk_ln b
    have e : sgS (.loop b) = kw "loop" :: sgK b := by simp [sgS, sgK]
    have l1 : (kw "loop ").length = 5 := by decide +kernel
    rw [e]
    refine ⟨fun t ht => ?_, by simp [wtS]; omega, by simp [wrS, wtS, l1]; omega⟩
    rcases List.mem_cons.mp ht with rfl | ht
    · exact tok_kw (x := "loop") (by decide +kernel) (by decide +kernel)
    · exact k1 t ht
  | iff x a b =>
    obtain ⟨o1, o2, o3⟩ := h
    obtain ⟨k1, k2⟩ := sgK_good G o2
    obtain ⟨j1, j2⟩ := sgK_good G o3
    obtain ⟨_, _, k3⟩ := G a o2
    obtain ⟨_, _, j3⟩ := G b o3
    have ka := blk_ln a
    have kb := blk_ln b
    have l0 := word_8 o1
    have e : sgS (.iff x a b) = kw "if" :: x :: (sgK a ++ kw "else" :: sgK b) := by simp [sgS, sgK]
    have l1 : (kw "if ").length = 3 := by decide +kernel
    have l2 : (kw " else ").length = 6 := by decide +kernel
    rw [e]
    refine ⟨fun t ht => ?_, by simp [wtS]; omega, by simp [wrS, wtS, l1, l2]; omega⟩
    simp only [List.mem_cons, List.mem_append] at ht
    rcases ht with rfl | rfl | ht | rfl | ht
    · exact tok_kw (x := "if") (by decide +kernel) (by decide +kernel)
    · exact ⟨.inl (word_tok o1), l0⟩
    · exact k1 t ht
    · exact tok_kw (x := "else") (by decide +kernel) (by decide +kernel)
    · exact j1 t ht
  | tr a b =>
    obtain ⟨o2, o3⟩ := h
    obtain ⟨k1, k2⟩ := sgK_good G o2
    obtain ⟨j1, j2⟩ := sgK_good G o3
    obtain ⟨_, _, k3⟩ := G a o2
    obtain ⟨_, _, j3⟩ := G b o3
    have ka := blk_ln a
    have kb := blk_ln b
    have e : sgS (.tr a b) = kw "try" :: (sgK a ++ kw "catch" :: sgK b) := by simp [sgS, sgK]
    have l1 : (kw "try ").length = 4 := by decide +kernel
    have l2 : (kw " catch ").length = 7 := by decide +kernel
    rw [e]
    refine ⟨fun t ht => ?_, by simp [wtS]; omega, by simp [wrS, wtS, l1, l2]; omega⟩
    simp only [List.mem_cons, List.mem_append] at ht
    rcases ht with rfl | ht | rfl | ht
    · exact tok_kw (x := "try") (by decide +kernel) (by decide +kernel)
    · exact k1 t ht
    · exact tok_kw (x := "catch") (by decide +kernel) (by decide +kernel)
    · exact j1 t ht
  | ei bs =>
    obtain ⟨i1, i2, i3⟩ := ei_good G true bs h.2
    have jl := join_le (s := kw " or ") (wrK bs)
    have l1 : (kw "either ").length = 7 := by decide +kernel
    have l2 : (kw " or ").length = 4 := by decide +kernel
    rw [l2] at jl
    refine ⟨i1, by simp [sgS, wtS]; omega, by simp [wrS, wtS, l1]; omega⟩
theorem goodB {okk : List Stp → Prop} (G : GoodK okk) : ∀ b : List Stp, (∀ s ∈ b, okSt okk s) → (∀ t ∈ sgB b, IsTok t ∧ t.length ≤ 8) ∧ (sgB b).length ≤ 6 * wtB b ∧ lnL b ≤ 30 * wtB b
  | [], _ => ⟨fun _ h => absurd h (List.not_mem_nil), Nat.zero_le _, Nat.zero_le _⟩
  | s :: b, h => by
    obtain ⟨h1, h2, h3⟩ := goodS G s (h s (by simp))
    obtain ⟨i1, i2, i3⟩ := goodB G b fun c hc => h c (by simp [hc])
    refine ⟨fun t ht => (List.mem_append.mp ht).elim (h1 t) (i1 t), ?_, ?_⟩
    · simp only [sgB, List.length_append, wtB]
      omega
    · unfold lnL at i3 ⊢
      simp only [wrL, List.map_cons, List.sum_cons, List.length_cons, wtB]
      omega
theorem goodN : ∀ n, GoodK (okK n)
  | 0 => fun _ h => h.elim
  | n + 1 => fun b h => goodB (goodN n) b h
theorem reads_ok {a : List Nat} {b : List Stp} (hok : okK 7 b) (sp : Spells a (sgB b)) : pSteps (some a) = .ok (.tuple (datB b)) := by
  rw [pSteps_some (bodyN_ok hok (toks_spells sp))]
  rfl
theorem datB_app : ∀ b c : List Stp, datB (b ++ c) = datB b ++ datB c
  | [], _ => rfl
  | t :: b, c => congrArg (datS t :: ·) (datB_app b c)
theorem okK_app {n : Nat} {a b : List Stp} (ha : okK (n + 1) a) (hb : okK (n + 1) b) : okK (n + 1) (a ++ b) := fun s hs => (List.mem_append.mp hs).elim (ha s) (hb s)
theorem ne_refl {n : Nat} {b : List Stp} (h : okK n b) : PyData.eqv (.tuple (datB b)) (.tuple (datB b)) = true := SeqAt.eqv_refl _ (layN n b h).1

/-! ### 0d. an error of our own that a suite holds: its class asked, its field read -/
/-- isinstance(e, c), e an error of the class at D with its own dict -/
def rIsED (K : PySem.W.Frag) (D a : Addr) (cls : Value) (d : Option Addr) : List V → Hp → VK → Prop := fun xs H Q => cls = .ref D ∧ ∃ (dd : Addr) (fs : List (Str × V)) (c : V) (cv : Value) (b : Bool), d = some dd ∧ H dd = some (.xd fs) ∧
  xs = [.ref a, c] ∧ (∀ u, RelV c u → u = cv) ∧ PySem.W.kitOne K (.ref D) cv = some b ∧ Q (.bl b) H
section
variable {X : Cx} {a D : Addr} {oe : Obj} {pn : List (Addr × Obj)} {cls : Value} {d : Option Addr}
theorem instE {pins : List (Addr × Obj)} {s : Shared} {σ : L2.St} {H : Hp} (hz : Zc cls d oe) (hf : ∃ vs, oe.data = .fields vs) (I : Inv (X.suite a ((a, oe) :: pn)) pins σ H s) {dd : Addr} {fs : List (Str × V)} (ec : cls = .ref D) (ed : d = some dd) (hd : H dd = some (.xd fs)) :
    ∃ (od : Obj) (mA : Str → Option Value), PySem.W.InstAt s.heap a oe D (some od) ∧ (∀ f, PySem.W.lookIn f od = some (mA f)) ∧ ∀ f, RelO (fs.lookup f) (mA f) := by
  obtain ⟨hget, _⟩ := I.pin (a, oe) (List.mem_append.mpr (.inl List.mem_cons_self))
  obtain ⟨vs, hv⟩ := hf
  obtain ⟨mA, hns, hr⟩ := I.hok dd _ hd
  obtain ⟨od, ho, hl⟩ := lookIn_ns hns
  refine ⟨od, mA, ⟨hget, hz.1.trans ec, by unfold PySem.W.notCls; rw [hv] <;> rfl, ?_⟩, hl, hr⟩
  rw [hz.2, ed]
  exact ho
theorem call_isED (C : ExcC X.K D) (hz : Zc cls d oe) (hf : ∃ vs, oe.data = .fields vs) : CallR (X.suite a ((a, oe) :: pn)) (.builtin "isinstance") (rIsED X.K D a cls d) := by
  intro pins s σ H xs us Q I r h
  obtain ⟨hc, dd, fs, c, cv, b, hd, hH, rfl, hcv, e, q⟩ := h
  cases r with
  | cons rx rr =>
    cases rr with
    | cons rt rr =>
      cases rr
      cases rx
      have ec := hcv _ rt
      subst ec
      obtain ⟨od, mA, J, _⟩ := instE hz hf I hc hd hH
      have hcl : (PySem.W.clsIn X.K D).isSome = true := by
        obtain ⟨cd, hcd, _⟩ := PySem.W.any_some C.hd
        rw [hcd]
        rfl
      exact PySem.W.kia_one (PySem.W.kitx_exc hcl C.hg C.hk C.hs C.ha C.hn C.ht C.hm) I.kIn J e (fun z => nomatch z) fun tk => ⟨.bl b, H, I.kept (t' := tk) fun _ _ z => z, rfl, q⟩
/-- e.f -/
def tFE (f : Str) (D a : Addr) (cls : Value) (d : Option Addr) (te : TE) : TE := fun σ H Q => te σ H fun x H1 => x = .ref a ∧ cls = .ref D ∧ ∃ (dd : Addr) (fs : List (Str × V)) (v : V), d = some dd ∧ H1 dd = some (.xd fs) ∧ fs.lookup f = some v ∧ Q v H1
theorem pe_fE {e : Expr} {te : TE} {pos : Pos} {f : Str} (C : ExcC X.K D) (nf : PySem.W.findIn X.K (.ref D) f = some none) (hz : Zc cls d oe) (hf : ∃ vs, oe.data = .fields vs) (he : PE (X.suite a ((a, oe) :: pn)) e te)
    (hb : attributeBase e f X.env (eval e X.env) = eval e X.env := by rfl) : PE (X.suite a ((a, oe) :: pn)) (.Attribute e f pos) (tFE f D a cls d te) := by
  refine ⟨fun pins s σ H Q I h => ?_⟩
  refine attr_of hb (thn (he.run pins s σ H _ I h) fun u s1 hh => ?_)
  obtain ⟨x, H1, I1, rx, ex, ec, dd, fs, v, ed, ea, el, q⟩ := hh
  subst ex
  obtain rfl : u = Value.ref a := rx
  obtain ⟨od, mA, J, hl, hr⟩ := instE hz hf I1 ec ed ea
  obtain ⟨w, hw, rw'⟩ := RelO.some_of (v := v) (o := mA f) (by rw [← el]; exact hr f)
  exact HandSPX.exc_get I1.kIn J C.hg C.hk C.hs (PySem.W.findObj_own C.hd nf rfl (by rw [hl, hw])) (handed_of rw') ⟨v, H1, I1.tok _, rw', q⟩
end
section
variable {X : Cx} {k j : Nat} {x : Str} {sp : Sp} {E : L2.St → XK} {p pos : Pos} {e : Expr} {es : List Expr} {t : TA}
/-- f(e, ..) in a try -/
theorem pe_cXS (c : CalX X.prog X.w X.K X.mg X.base k x sp) (hr : Room j X.A) (hk : k ≤ j) (hg : Gl X x) (hx : ∀ σ, PassesAt (L2.CX X.prog X.w) X σ (E σ)) (ha : PA X (e :: es) t) (hdb : (x == ("__debug__" : Str)) = false := by decide)
    (he : starEach (e :: es) X.env = (false, eval e X.env) :: starEach es X.env := by rfl) (hpl : (backTo pos (starEach es X.env)).any (·.1) = false := by rfl) : PE X (.Call (.Name x p) (e :: es) [] pos) (tCallS sp E t) := by
  obtain ⟨f, fd, ps, F, hm, kp, b⟩ := c.ex
  exact pe_callS F (hr.mono hk) hg hm kp b hx ha hdb he hpl
end

/-! ### 14. where a text is wrong, by its error -/
section
variable {P : Program} {w : World} {K : PySem.W.Frag} {mg : Str → Option Value} {base : Heap} {Z : Addrs}
def spAt (K : PySem.W.Frag) : Sp := fun vs H Q _ => ∃ v z, vs = [v] ∧ StrOr K H v z ∧ (∀ d, pSteps z = .ok d → ∀ H', Same H H' → Q .non H') ∧ (∀ p, pSteps z = .error p → ∀ H', Same H H' → Q (.int p) H')
theorem c__law_at (T : Txt K mg Z) : Cal P w K mg base 41 "_law_at" (spAt K) [] := by
  have c_read_steps : CalX P w K mg base 40 "read_steps" _ := c_read_steps T
  refine cal_of T.d__law_at sc__law_at (fun vs H Q E h => ?_) (fun f cdv A outer s H vs Q E hr h => ?_)
  · obtain ⟨v, z, rfl, _⟩ := h
    rfl
  · obtain ⟨v, z, rfl, hz, k1, k2⟩ := h
    refine ⟨_, (pss_cons (ps_try_as (i := 1) rfl rfl sc__law_at.nd rfl rfl ⟨rfl, by decide, .inl T.k_BadText⟩ takes0 (fun W pn xe tk _ => (pss_one (ps_expr (pe_cXS c_read_steps hr (by omega) rfl (fun σ => passAt tk σ) (pa_cons (pv 0) pa_nil))))) (fun a oe cls d pn hz hf => (pss_one (ps_ret (pe_ifExp (PW.pt (pw_and (pt_val (pe_callB (call_isED T.ec_BadText hz hf) (by rfl) T.b_isinstance (by decide +kernel) (pa_cons (pv 1) (pa_cons (pe_gc (v := .ref Z.C_EarlyError) rfl ⟨_, T.k_EarlyError, rfl⟩) pa_nil)))) (pw_and1 (pt_not (pt_val (pe_callB (call_isED T.ec_BadText hz hf) (by rfl) T.b_isinstance (by decide +kernel) (pa_cons (pv 1) (pa_cons (pe_gc (v := .ref Z.C_TooMany) rfl ⟨_, T.k_TooMany, rfl⟩) pa_nil)))))))) (pe_fE (f := "at") T.ec_BadText T.n_BadText_at hz hf (pv 1)) pe_non)))))
      (pss_one (ps_ret pe_non))), ?_⟩
    refine ⟨_, rfl, v, z, rfl, hz, fun d e u H1 S1 _ => k1 d e H1 S1, fun p e d H1 nd S1 hd => ⟨true, T.te_BadText, fun _ a ha => ?_, fun q => Bool.noConfusion q⟩⟩
    refine ⟨_, rfl, rfl, d, _, .ref Z.C_EarlyError, .ref Z.C_EarlyError, true, rfl, hd, rfl, fun u r => r, T.kit_BadText_EarlyError, _, rfl, iteT ?_⟩
    refine ⟨_, rfl, rfl, d, _, .ref Z.C_TooMany, .ref Z.C_TooMany, false, rfl, hd, rfl, fun u r => r, T.kit_BadText_TooMany, _, rfl, iteT ?_⟩
    exact ⟨_, rfl, rfl, rfl, d, _, _, rfl, hd, look_eq, k2 p e H1 S1⟩
end

/-! ### 15. the reading fails at the same place where two texts begin alike -/
section
variable {α β : Type}
abbrev Pgr (α : Type) := List Tok → Except (List Tok) (α × List Tok)
def rst : Except (List Tok) (α × List Tok) → List Tok
  | .error e => e
  | .ok (_, r) => r
def Mon (m : Pgr α) : Prop := ∀ ts, (rst (m ts)).length ≤ ts.length
def LocR (R1 R2 : Except (List Tok) (α × List Tok)) (s1 s2 : List Tok) : Prop :=
  (∃ p', p' ≠ [] ∧ ((∃ d, R1 = .ok (d, p' ++ s1) ∧ R2 = .ok (d, p' ++ s2)) ∨ (R1 = .error (p' ++ s1) ∧ R2 = .error (p' ++ s2)))) ∨ ((rst R1).length ≤ s1.length ∧ (rst R2).length ≤ s2.length)
def Loc (m : Pgr α) : Prop := ∀ p s1 s2, LocR (m (p ++ s1)) (m (p ++ s2)) s1 s2
def bndR (R : Except (List Tok) (α × List Tok)) (f : α → Pgr β) : Except (List Tok) (β × List Tok) := match R with
  | .error e => .error e
  | .ok (a, r) => f a r
def bnd (m : Pgr α) (f : α → Pgr β) : Pgr β := fun ts => bndR (m ts) f
theorem mon_bnd {m : Pgr α} {f : α → Pgr β} (hm : Mon m) (hf : ∀ a, Mon (f a)) : Mon (bnd m f) := fun ts => by
  have h := hm ts
  unfold bnd bndR
  cases e : m ts with
  | error r => rw [e] at h; exact h
  | ok x =>
    rw [e] at h
    exact Nat.le_trans (hf x.1 x.2) h
theorem locR_bnd {R1 R2 : Except (List Tok) (α × List Tok)} {f1 f2 : α → Pgr β} {s1 s2 : List Tok} (h : LocR R1 R2 s1 s2) (m1 : ∀ a, Mon (f1 a)) (m2 : ∀ a, Mon (f2 a))
    (hf : ∀ d p', p' ≠ [] → R1 = .ok (d, p' ++ s1) → R2 = .ok (d, p' ++ s2) → LocR (f1 d (p' ++ s1)) (f2 d (p' ++ s2)) s1 s2) :
    LocR (bndR R1 f1) (bndR R2 f2) s1 s2 := by
  rcases h with ⟨p', hp, ⟨d, e1, e2⟩ | ⟨e1, e2⟩⟩ | ⟨h1, h2⟩
  · have := hf d p' hp e1 e2
    subst e1 e2
    exact this
  · subst e1 e2
    exact .inl ⟨p', hp, .inr ⟨rfl, rfl⟩⟩
  · refine .inr ⟨?_, ?_⟩
    · cases R1 with
      | error e => exact h1
      | ok x => exact Nat.le_trans (m1 x.1 x.2) h1
    · cases R2 with
      | error e => exact h2
      | ok x => exact Nat.le_trans (m2 x.1 x.2) h2
theorem loc_bnd {m : Pgr α} {f : α → Pgr β} (hm : Loc m) (mf : ∀ a, Mon (f a)) (hf : ∀ a, Loc (f a)) : Loc (bnd m f) := fun p s1 s2 =>
  locR_bnd (hm p s1 s2) mf mf fun d p' _ _ _ => hf d p' s1 s2
def ret (a : α) : Pgr α := fun ts => .ok (a, ts)
theorem mon_ret (a : α) : Mon (ret a) := fun _ => Nat.le_refl _
theorem loc_ret (a : α) : Loc (ret a) := fun p s1 s2 => by
  cases p with
  | nil => exact .inr ⟨Nat.le_refl _, Nat.le_refl _⟩
  | cons t p => exact .inl ⟨t :: p, by simp, .inl ⟨a, rfl, rfl⟩⟩
theorem mon_tok (fit : List Nat → Bool) : Mon (pTok fit) := fun ts => by
  unfold pTok
  split
  · show ts.tail.length ≤ _
    simp
  · exact Nat.le_refl _
theorem loc_tok (fit : List Nat → Bool) : Loc (pTok fit) := fun p s1 s2 => by
  cases p with
  | nil => exact .inr ⟨mon_tok fit s1, mon_tok fit s2⟩
  | cons t p =>
    unfold pTok
    show LocR (if fit t.2 = true then _ else _) (if fit t.2 = true then _ else _) s1 s2
    cases fit t.2 with
    | true =>
      rw [if_pos rfl, if_pos rfl]
      cases p with
      | nil => exact .inr ⟨Nat.le_refl _, Nat.le_refl _⟩
      | cons u p => exact .inl ⟨u :: p, by simp, .inl ⟨t.2, rfl, rfl⟩⟩
    | false =>
      rw [if_neg Bool.false_ne_true, if_neg Bool.false_ne_true]
      exact .inl ⟨t :: p, by simp, .inr ⟨rfl, rfl⟩⟩
end
theorem mon_of {m m' : Pgr α} (e : ∀ ts, m ts = m' ts) (h : Mon m') : Mon m := fun ts => by rw [e]; exact h ts
theorem loc_of {m m' : Pgr α} (e : ∀ ts, m ts = m' ts) (h : Loc m') : Loc m := fun p s1 s2 => by rw [e, e]; exact h p s1 s2
section
variable {blk : List Tok → PR}
theorem bnd_ok {α β : Type} {m : Pgr α} {f : α → Pgr β} {ts : List Tok} {x : α × List Tok} (e : m ts = .ok x) : bnd m f ts = f x.1 x.2 := by
  unfold bnd bndR
  rw [e]
theorem bnd_err {α β : Type} {m : Pgr α} {f : α → Pgr β} {ts x : List Tok} (e : m ts = .error x) : bnd m f ts = .error x := by
  unfold bnd bndR
  rw [e]
theorem pIf_eq (ts : List Tok) : pIf blk ts = bnd (pTok wordL) (fun x => bnd blk fun a => bnd (pTok (is "else")) fun _ => bnd blk fun b => ret (PyData.tuple [.str "if", .str (S x), a, b])) ts := by
  unfold pIf
  cases e1 : pTok wordL ts with
  | error e => rw [bnd_err e1]
  | ok x =>
    rw [bnd_ok e1]
    show (match blk x.2 with | .error e => _ | .ok (a, r2) => _) = _
    cases e2 : blk x.2 with
    | error e => rw [bnd_err e2]
    | ok y =>
      rw [bnd_ok e2]
      show (match pTok (is "else") y.2 with | .error e => _ | .ok (_, r3) => _) = _
      cases e3 : pTok (is "else") y.2 with
      | error e => rw [bnd_err e3]
      | ok z =>
        rw [bnd_ok e3]
        show (match blk z.2 with | .error e => _ | .ok (b, r4) => _) = _
        cases e4 : blk z.2 with
        | error e => rw [bnd_err e4]
        | ok u => rw [bnd_ok e4]; rfl
theorem pTry_eq (ts : List Tok) : pTry blk ts = bnd blk (fun a => bnd (pTok (is "catch")) fun _ => bnd blk fun b => ret (PyData.tuple [.str "try", a, b])) ts := by
  unfold pTry
  cases e2 : blk ts with
  | error e => rw [bnd_err e2]
  | ok y =>
    rw [bnd_ok e2]
    show (match pTok (is "catch") y.2 with | .error e => _ | .ok (_, r3) => _) = _
    cases e3 : pTok (is "catch") y.2 with
    | error e => rw [bnd_err e3]
    | ok z =>
      rw [bnd_ok e3]
      show (match blk z.2 with | .error e => _ | .ok (b, r4) => _) = _
      cases e4 : blk z.2 with
      | error e => rw [bnd_err e4]
      | ok u => rw [bnd_ok e4]; rfl
theorem pMore_eq (f : Nat) (acc : List PyData) (ts : List Tok) : pMore blk (f + 1) acc ts = if isW (tok0 ts) "or" = true then bndR (blk ts.tail) (fun b => pMore blk f (acc ++ [b])) else .ok (acc, ts) := by
  rw [pMore]
  unfold bndR
  cases isW (tok0 ts) "or" with
  | false => rfl
  | true =>
    rw [if_pos rfl, if_pos rfl]
    cases blk ts.tail <;> rfl
theorem pEither_eq (ts : List Tok) : pEither blk ts = bnd blk (fun a => bnd (pTok (is "or")) fun _ => bnd blk fun b => fun r4 => bndR (pMore blk (r4.length + 1) [a, b] r4) fun ds => ret (PyData.tuple [.str "either", .tuple ds])) ts := by
  unfold pEither
  cases e2 : blk ts with
  | error e => rw [bnd_err e2]
  | ok y =>
    rw [bnd_ok e2]
    show (match pTok (is "or") y.2 with | .error e => _ | .ok (_, r3) => _) = _
    cases e3 : pTok (is "or") y.2 with
    | error e => rw [bnd_err e3]
    | ok z =>
      rw [bnd_ok e3]
      show (match blk z.2 with | .error e => _ | .ok (b, r4) => _) = _
      cases e4 : blk z.2 with
      | error e => rw [bnd_err e4]
      | ok u =>
        rw [bnd_ok e4]
        show (match pMore blk (u.2.length + 1) [y.1, u.1] u.2 with | .error e => _ | .ok (ds, r5) => _) = bndR (pMore blk (u.2.length + 1) [y.1, u.1] u.2) _
        cases pMore blk (u.2.length + 1) [y.1, u.1] u.2 <;> rfl
theorem pSemi_eq (d : List PyData) (ts : List Tok) : pSemi d ts = bnd (pTok (is ";")) (fun _ => ret (PyData.tuple d)) ts := by
  unfold pSemi
  cases e2 : pTok (is ";") ts with
  | error e => rw [bnd_err e2]
  | ok y => rw [bnd_ok e2]; rfl
theorem mon_semi (d : List PyData) : Mon (pSemi d) := mon_of (pSemi_eq d) (mon_bnd (mon_tok _) fun _ => mon_ret _)
theorem loc_semi (d : List PyData) : Loc (pSemi d) := loc_of (pSemi_eq d) (loc_bnd (loc_tok _) (fun _ => mon_ret _) fun _ => loc_ret _)
theorem pSimple_eq (w : List Nat) (ts : List Tok) : pSimple w ts = (if inV (.str (S w)) withV = true then bnd (pTok wordL) (fun x => pSemi [.str (S w), .str (S x)]) else if inV (.str (S w)) classV = true then bnd (pTok classL) (fun x => pSemi [.str (S w), .str (S x)]) else pSemi [.str (S w)]) ts := by
  unfold pSimple
  split
  · cases e2 : pTok wordL ts with
    | error e => rw [bnd_err e2]
    | ok y => rw [bnd_ok e2]
  · split
    · cases e2 : pTok classL ts with
      | error e => rw [bnd_err e2]
      | ok y => rw [bnd_ok e2]
    · rfl
theorem mon_simple (w : List Nat) : Mon (pSimple w) := mon_of (pSimple_eq w) (by
  split
  · exact mon_bnd (mon_tok _) fun _ => mon_semi _
  · split
    · exact mon_bnd (mon_tok _) fun _ => mon_semi _
    · exact mon_semi _)
theorem loc_simple (w : List Nat) : Loc (pSimple w) := loc_of (pSimple_eq w) (by
  split
  · exact loc_bnd (loc_tok _) (fun _ => mon_semi _) fun _ => loc_semi _
  · split
    · exact loc_bnd (loc_tok _) (fun _ => mon_semi _) fun _ => loc_semi _
    · exact loc_semi _)
theorem pStepW_eq (w : List Nat) (ts : List Tok) : pStepW blk w ts = (if isW w "loop" = true then bnd blk (fun b => ret (PyData.tuple [.str (S w), b])) else if isW w "if" = true then pIf blk else if isW w "try" = true then pTry blk else if isW w "either" = true then pEither blk else pSimple w) ts := by
  unfold pStepW
  split
  · cases e2 : blk ts with
    | error e => rw [bnd_err e2]
    | ok y => rw [bnd_ok e2]; rfl
  · split
    · rfl
    · split
      · rfl
      · split <;> rfl
variable (mb : Mon blk) (lb : Loc blk)
include mb
theorem mon_if : Mon (pIf blk) := mon_of pIf_eq (mon_bnd (mon_tok _) fun _ => mon_bnd mb fun _ => mon_bnd (mon_tok _) fun _ => mon_bnd mb fun _ => mon_ret _)
theorem mon_try : Mon (pTry blk) := mon_of pTry_eq (mon_bnd mb fun _ => mon_bnd (mon_tok _) fun _ => mon_bnd mb fun _ => mon_ret _)
theorem mon_more : ∀ f acc, Mon (pMore blk f acc)
  | 0, acc => mon_ret acc
  | f + 1, acc => fun ts => by
    unfold pMore
    split
    · have h := mb ts.tail
      have ht : ts.tail.length ≤ ts.length := by simp
      cases e : blk ts.tail with
      | error r =>
        rw [e] at h
        exact Nat.le_trans h ht
      | ok x =>
        rw [e] at h
        exact Nat.le_trans (mon_more f _ x.2) (Nat.le_trans h ht)
    · exact Nat.le_refl _
include lb
theorem loc_if : Loc (pIf blk) := loc_of pIf_eq (loc_bnd (loc_tok _)
  (fun _ => mon_bnd mb fun _ => mon_bnd (mon_tok _) fun _ => mon_bnd mb fun _ => mon_ret _)
  fun _ => loc_bnd lb (fun _ => mon_bnd (mon_tok _) fun _ => mon_bnd mb fun _ => mon_ret _) fun _ => loc_bnd (loc_tok _) (fun _ => mon_bnd mb fun _ => mon_ret _) fun _ => loc_bnd lb (fun _ => mon_ret _) fun _ => loc_ret _)
theorem loc_try : Loc (pTry blk) := loc_of pTry_eq (loc_bnd lb
  (fun _ => mon_bnd (mon_tok _) fun _ => mon_bnd mb fun _ => mon_ret _) fun _ => loc_bnd (loc_tok _) (fun _ => mon_bnd mb fun _ => mon_ret _) fun _ => loc_bnd lb (fun _ => mon_ret _) fun _ => loc_ret _)
theorem loc_more : ∀ f1 f2 acc p s1 s2, (p ++ s1).length < f1 → (p ++ s2).length < f2 → LocR (pMore blk f1 acc (p ++ s1)) (pMore blk f2 acc (p ++ s2)) s1 s2
  | 0, _, _, _, _, _, h, _ => absurd h (Nat.not_lt_zero _)
  | _ + 1, 0, _, _, _, _, _, h => absurd h (Nat.not_lt_zero _)
  | f1 + 1, f2 + 1, acc, [], s1, s2, _, _ => .inr ⟨mon_more mb _ _ _, mon_more mb _ _ _⟩
  | f1 + 1, f2 + 1, acc, t :: p, s1, s2, h1, h2 => by
    rw [pMore_eq, pMore_eq]
    show LocR (if isW t.2 "or" = true then bndR (blk (p ++ s1)) (fun b => pMore blk f1 (acc ++ [b])) else .ok (acc, t :: (p ++ s1)))
      (if isW t.2 "or" = true then bndR (blk (p ++ s2)) (fun b => pMore blk f2 (acc ++ [b])) else .ok (acc, t :: (p ++ s2))) s1 s2
    cases isW t.2 "or" with
    | false =>
      rw [if_neg Bool.false_ne_true, if_neg Bool.false_ne_true]
      exact .inl ⟨t :: p, by simp, .inl ⟨acc, rfl, rfl⟩⟩
    | true =>
      rw [if_pos rfl, if_pos rfl]
      refine locR_bnd (f1 := fun b => pMore blk f1 (acc ++ [b])) (f2 := fun b => pMore blk f2 (acc ++ [b])) (lb p s1 s2) (fun _ => mon_more mb _ _) (fun _ => mon_more mb _ _) fun d p' _ e1 e2 => ?_
      have m1 := mb (p ++ s1)
      have m2 := mb (p ++ s2)
      rw [e1] at m1
      rw [e2] at m2
      have m1 : (p' ++ s1).length ≤ (p ++ s1).length := m1
      have m2 : (p' ++ s2).length ≤ (p ++ s2).length := m2
      have h1 : (p ++ s1).length + 1 < f1 + 1 := h1
      have h2 : (p ++ s2).length + 1 < f2 + 1 := h2
      exact loc_more f1 f2 _ p' s1 s2 (by omega) (by omega)
omit lb in
theorem mon_either : Mon (pEither blk) := mon_of pEither_eq (mon_bnd mb fun a => mon_bnd (mon_tok _) fun _ => mon_bnd mb fun b r4 => by
  have h := mon_more mb (r4.length + 1) [a, b] r4
  unfold bndR
  cases e : pMore blk (r4.length + 1) [a, b] r4 with
  | error r => rw [e] at h; exact h
  | ok x => rw [e] at h; exact h)
theorem loc_either : Loc (pEither blk) := loc_of pEither_eq (by
  have mm : ∀ a b, Mon (fun r4 => bndR (pMore blk (r4.length + 1) [a, b] r4) fun ds => ret (PyData.tuple [.str "either", .tuple ds])) := fun a b r4 => by
    have h := mon_more mb (r4.length + 1) [a, b] r4
    show (rst (bndR (pMore blk (r4.length + 1) [a, b] r4) fun ds => ret (PyData.tuple [.str "either", .tuple ds]))).length ≤ _
    unfold bndR
    cases e : pMore blk (r4.length + 1) [a, b] r4 with
    | error r => rw [e] at h; exact h
    | ok x => rw [e] at h; exact h
  refine loc_bnd lb (fun _ => mon_bnd (mon_tok _) fun _ => mon_bnd mb fun _ => mm _ _) fun a => loc_bnd (loc_tok _) (fun _ => mon_bnd mb fun _ => mm _ _) fun _ => loc_bnd lb (fun _ => mm _ _) fun b p s1 s2 => ?_
  exact locR_bnd (loc_more mb lb _ _ [a, b] p s1 s2 (Nat.lt_succ_self _) (Nat.lt_succ_self _)) (fun _ => mon_ret _) (fun _ => mon_ret _) fun d p' _ _ _ => loc_ret _ p' s1 s2)
omit lb in
theorem mon_stepW (w : List Nat) : Mon (pStepW blk w) := mon_of (pStepW_eq w) (by
  split
  · exact mon_bnd mb fun _ => mon_ret _
  · split
    · exact mon_if mb
    · split
      · exact mon_try mb
      · split
        · exact mon_either mb
        · exact mon_simple w)
theorem loc_stepW (w : List Nat) : Loc (pStepW blk w) := loc_of (pStepW_eq w) (by
  split
  · exact loc_bnd lb (fun _ => mon_ret _) fun _ => loc_ret _
  · split
    · exact loc_if mb lb
    · split
      · exact loc_try mb lb
      · split
        · exact loc_either mb lb
        · exact loc_simple w)
omit lb in
theorem mon_stepT (ts : List Tok) : (rst (pStep blk ts)).length ≤ ts.tail.length := mon_stepW mb _ _
omit lb in
theorem mon_step : Mon (pStep blk) := fun ts => Nat.le_trans (mon_stepT mb ts) (by simp)
theorem loc_step : Loc (pStep blk) := fun p s1 s2 => by
  cases p with
  | nil => exact .inr ⟨mon_step mb s1, mon_step mb s2⟩
  | cons t p => exact loc_stepW mb lb t.2 p s1 s2
omit mb lb in
theorem pLoop_eq (step : List Tok → PR) (f : Nat) (acc : List PyData) (ts : List Tok) : pLoop step (f + 1) acc ts = if inV (.str (S (tok0 ts))) stepV = true then bndR (step ts) (fun b => pLoop step f (acc ++ [b])) else .ok (acc, ts) := by
  rw [pLoop]
  unfold bndR
  cases inV (.str (S (tok0 ts))) stepV with
  | false => rfl
  | true =>
    rw [if_pos rfl, if_pos rfl]
    cases step ts <;> rfl
omit lb in
theorem mon_loop : ∀ f acc, Mon (pLoop (pStep blk) f acc)
  | 0, acc => mon_ret acc
  | f + 1, acc => fun ts => by
    rw [pLoop_eq]
    split
    · have h := mon_step mb ts
      unfold bndR
      cases e : pStep blk ts with
      | error r => rw [e] at h; exact h
      | ok x =>
        rw [e] at h
        exact Nat.le_trans (mon_loop f _ x.2) h
    · exact Nat.le_refl _
theorem loc_loop : ∀ f1 f2 acc p s1 s2, (p ++ s1).length < f1 → (p ++ s2).length < f2 → LocR (pLoop (pStep blk) f1 acc (p ++ s1)) (pLoop (pStep blk) f2 acc (p ++ s2)) s1 s2
  | 0, _, _, _, _, _, h, _ => absurd h (Nat.not_lt_zero _)
  | _ + 1, 0, _, _, _, _, _, h => absurd h (Nat.not_lt_zero _)
  | f1 + 1, f2 + 1, acc, [], s1, s2, _, _ => .inr ⟨mon_loop mb _ _ _, mon_loop mb _ _ _⟩
  | f1 + 1, f2 + 1, acc, t :: p, s1, s2, h1, h2 => by
    rw [pLoop_eq, pLoop_eq]
    show LocR (if inV (.str (S t.2)) stepV = true then bndR (pStep blk (t :: p ++ s1)) (fun b => pLoop (pStep blk) f1 (acc ++ [b])) else .ok (acc, t :: (p ++ s1)))
      (if inV (.str (S t.2)) stepV = true then bndR (pStep blk (t :: p ++ s2)) (fun b => pLoop (pStep blk) f2 (acc ++ [b])) else .ok (acc, t :: (p ++ s2))) s1 s2
    cases inV (.str (S t.2)) stepV with
    | false =>
      rw [if_neg Bool.false_ne_true, if_neg Bool.false_ne_true]
      exact .inl ⟨t :: p, by simp, .inl ⟨acc, rfl, rfl⟩⟩
    | true =>
      rw [if_pos rfl, if_pos rfl]
      refine locR_bnd (loc_step mb lb (t :: p) s1 s2) (fun _ => mon_loop mb _ _) (fun _ => mon_loop mb _ _) fun d p' _ e1 e2 => ?_
      have m1 := mon_stepT mb (t :: p ++ s1)
      have m2 := mon_stepT mb (t :: p ++ s2)
      rw [e1] at m1
      rw [e2] at m2
      have m1 : (p' ++ s1).length ≤ (p ++ s1).length := m1
      have m2 : (p' ++ s2).length ≤ (p ++ s2).length := m2
      have h1 : (p ++ s1).length + 1 < f1 + 1 := h1
      have h2 : (p ++ s2).length + 1 < f2 + 1 := h2
      exact loc_loop f1 f2 _ p' s1 s2 (by omega) (by omega)
omit mb lb in
theorem pBodyOf_eq (step : List Tok → PR) (ts : List Tok) : pBodyOf step ts = bndR (pLoop step (ts.length + 1) [] ts) (fun ds => ret (PyData.tuple ds)) := by
  unfold pBodyOf bndR
  cases pLoop step (ts.length + 1) [] ts <;> rfl
omit lb in
theorem mon_body : Mon (pBodyOf (pStep blk)) := fun ts => by
  rw [pBodyOf_eq]
  have h := mon_loop mb (ts.length + 1) [] ts
  unfold bndR
  cases e : pLoop (pStep blk) (ts.length + 1) [] ts with
  | error r => rw [e] at h; exact h
  | ok x => rw [e] at h; exact h
theorem loc_body : Loc (pBodyOf (pStep blk)) := fun p s1 s2 => by
  rw [pBodyOf_eq, pBodyOf_eq]
  exact locR_bnd (loc_loop mb lb _ _ [] p s1 s2 (Nat.lt_succ_self _) (Nat.lt_succ_self _)) (fun _ => mon_ret _) (fun _ => mon_ret _) fun d p' _ _ _ => loc_ret _ p' s1 s2
end
theorem pBraces_eq (body : List Tok → PR) (ts : List Tok) : pBraces body ts = bnd (pTok (is "{")) (fun _ => bnd body fun b => bnd (pTok (is "}")) fun _ => ret b) ts := by
  unfold pBraces
  cases e2 : pTok (is "{") ts with
  | error e => rw [bnd_err e2]
  | ok y =>
    rw [bnd_ok e2]
    show (match body y.2 with | .error e => _ | .ok (b, r2) => _) = _
    cases e3 : body y.2 with
    | error e => rw [bnd_err e3]
    | ok z =>
      rw [bnd_ok e3]
      show (match pTok (is "}") z.2 with | .error e => _ | .ok (_, r3) => _) = _
      cases e4 : pTok (is "}") z.2 with
      | error e => rw [bnd_err e4]
      | ok u => rw [bnd_ok e4]; rfl
theorem blk_loc : ∀ n, Mon (blkN n) ∧ Loc (blkN n)
  | 0 => ⟨fun _ => Nat.le_refl _, fun p s1 s2 => by
    cases p with
    | nil => exact .inr ⟨Nat.le_refl _, Nat.le_refl _⟩
    | cons t p => exact .inl ⟨t :: p, by simp, .inr ⟨rfl, rfl⟩⟩⟩
  | n + 1 => by
    obtain ⟨m, l⟩ := blk_loc n
    exact ⟨mon_of (pBraces_eq _) (mon_bnd (mon_tok _) fun _ => mon_bnd (mon_body m) fun _ => mon_bnd (mon_tok _) fun _ => mon_ret _),
      loc_of (pBraces_eq _) (loc_bnd (loc_tok _) (fun _ => mon_bnd (mon_body m) fun _ => mon_bnd (mon_tok _) fun _ => mon_ret _) fun _ => loc_bnd (loc_body m l) (fun _ => mon_bnd (mon_tok _) fun _ => mon_ret _) fun _ => loc_bnd (loc_tok _) (fun _ => mon_ret _) fun _ => loc_ret _)⟩
/-- the whole reading -/
theorem bodyN_loc (n : Nat) : Loc (bodyN n) := loc_body (blk_loc n).1 (blk_loc n).2
/-- what is read whole is read up to where another text parts from it -/
theorem reach {n : Nat} {p s0 s : List Tok} {d : PyData} (h : bodyN n (p ++ s0) = .ok (d, [])) : (rst (bodyN n (p ++ s))).length ≤ s.length := by
  rcases bodyN_loc n p s0 s with ⟨p', hp, ⟨d', e1, _⟩ | ⟨e1, _⟩⟩ | ⟨_, h2⟩
  · rw [h] at e1
    have e1 := Except.ok.inj e1
    have e2 : p' ++ s0 = [] := (congrArg Prod.snd e1).symm
    exact absurd (List.append_eq_nil_iff.mp e2).1 hp
  · rw [h] at e1
    cases e1
  · exact h2

/-! ### 19. the reading as a machine with a stack -/
inductive Fr where
  | pl | fi | ft | fe | fo
  deriving DecidableEq
inductive Md where
  | bd (o : Bool) | nw | ni | nc | sm | op (f : Fr) | ael | aca | aor
  deriving DecidableEq
def aft : Fr → Md
  | .pl => .bd false
  | .fi => .ael
  | .ft => .aca
  | .fe => .aor
  | .fo => .bd true
def dW (w : List Nat) : Md := if isW w "loop" = true then .op .pl else if isW w "if" = true then .ni else if isW w "try" = true then .op .ft else if isW w "either" = true then .op .fe else if inV (.str (S w)) withV = true then .nw else if inV (.str (S w)) classV = true then .nc else .sm
def popF : List Fr → Option (Md × List Fr)
  | [] => none
  | f :: k => some (aft f, k)
def dl (M : Nat) : Md → List Fr → List Nat → Option (Md × List Fr)
  | .bd o, k, t => if inV (.str (S t)) stepV = true then some (dW t, k) else if (o && isW t "or") = true then some (.op .fo, k) else if isW t "}" = true then popF k else none
  | .nw, k, t => if wordL t = true then some (.sm, k) else none
  | .ni, k, t => if wordL t = true then some (.op .fi, k) else none
  | .nc, k, t => if classL t = true then some (.sm, k) else none
  | .sm, k, t => if isW t ";" = true then some (.bd false, k) else none
  | .op f, k, t => if (isW t "{" && decide (k.length < M)) = true then some (.bd false, f :: k) else none
  | .ael, k, t => if isW t "else" = true then some (.op .pl, k) else none
  | .aca, k, t => if isW t "catch" = true then some (.op .pl, k) else none
  | .aor, k, t => if isW t "or" = true then some (.op .fo, k) else none
def mach (M : Nat) : Md → List Fr → List Tok → (Md × List Fr) × List Tok
  | md, k, [] => ((md, k), [])
  | md, k, t :: ts => match dl M md k t.2 with
    | none => ((md, k), t :: ts)
    | some q => mach M q.1 q.2 ts
def Fin' (q : Md × List Fr) : Prop := q.2 = [] ∧ ∃ o, q.1 = .bd o
section
variable {M : Nat} {md : Md} {k : List Fr} {ts : List Tok} {q : Md × List Fr}
theorem dl_nil : dl M md k [] = none := by
  have h1 : inV (.str (S [])) stepV = false := by decide +kernel
  have h2 : wordL [] = false := by decide +kernel
  have h3 : classL [] = false := by decide +kernel
  have h4 : isW [] ";" = false ∧ isW [] "{" = false ∧ isW [] "else" = false ∧ isW [] "catch" = false ∧ isW [] "or" = false ∧ isW [] "}" = false := by decide +kernel
  obtain ⟨h4, h5, h6, h7, h8, h9⟩ := h4
  cases md <;> simp [dl, h1, h2, h3, h4, h5, h6, h7, h8, h9]
theorem mach_some (h : dl M md k (tok0 ts) = some q) : mach M md k ts = mach M q.1 q.2 ts.tail := by
  cases ts with
  | nil => exact absurd h (by rw [show tok0 [] = [] from rfl, dl_nil]; simp)
  | cons t ts =>
    have h : dl M md k t.2 = some q := h
    show (match dl M md k t.2 with
      | none => ((md, k), t :: ts)
      | some q => mach M q.1 q.2 ts) = _
    rw [h]
    rfl
theorem mach_none (h : dl M md k (tok0 ts) = none) : mach M md k ts = ((md, k), ts) := by
  cases ts with
  | nil => rfl
  | cons t ts =>
    have h : dl M md k t.2 = none := h
    show (match dl M md k t.2 with
      | none => ((md, k), t :: ts)
      | some q => mach M q.1 q.2 ts) = _
    rw [h]
end
section
variable {α β : Type} {M n : Nat}
def FolR (M : Nat) (R : Except (List Tok) (α × List Tok)) (z : (Md × List Fr) × List Tok) (k : List Fr) (post : Md → List Tok → Prop) : Prop := match R with
  | .error r => z.2 = r ∧ ¬ Fin' z.1
  | .ok x => ∃ md, post md x.2 ∧ z = mach M md k x.2
def Fol (M : Nat) (m : Pgr α) (n : Nat) (pre : Md) (post : Md → List Tok → Prop) : Prop := ∀ k ts, k.length + n = M → FolR M (m ts) (mach M pre k ts) k post
theorem fol_bndR {R : Except (List Tok) (α × List Tok)} {f : α → Pgr β} {z : (Md × List Fr) × List Tok} {k : List Fr} {mid : Md} {post : Md → List Tok → Prop} (h : FolR M R z k (fun md _ => md = mid)) (hf : ∀ a, Fol M (f a) n mid post) (hk : k.length + n = M) : FolR M (bndR R f) z k post := by
  cases R with
  | error r => exact h
  | ok x =>
    obtain ⟨md, rfl, rfl⟩ := h
    exact hf x.1 k x.2 hk
theorem fol_bnd {m : Pgr α} {f : α → Pgr β} {pre mid : Md} {post : Md → List Tok → Prop} (h : Fol M m n pre (fun md _ => md = mid)) (hf : ∀ a, Fol M (f a) n mid post) : Fol M (bnd m f) n pre post := fun k ts hk => fol_bndR (h k ts hk) hf hk
theorem fol_ret {a : α} {pre : Md} {post : Md → List Tok → Prop} (h : ∀ r, post pre r) : Fol M (ret a) n pre post := fun _ ts _ => ⟨pre, h ts, rfl⟩
theorem fol_of {m m' : Pgr α} {pre : Md} {post : Md → List Tok → Prop} (e : ∀ ts, m ts = m' ts) (h : Fol M m' n pre post) : Fol M m n pre post := fun k ts hk => by
  rw [e]
  exact h k ts hk
theorem fol_tok {fit : List Nat → Bool} {pre mid : Md} (h1 : ∀ t k, fit t = true → dl M pre k t = some (mid, k)) (h2 : ∀ t k, fit t = false → dl M pre k t = none) (hp : ∀ o, pre ≠ .bd o) : Fol M (pTok fit) n pre (fun md _ => md = mid) := fun k ts _ => by
  cases e : fit (tok0 ts) with
  | true =>
    rw [pTok_t e]
    exact ⟨mid, rfl, mach_some (h1 _ k e)⟩
  | false =>
    rw [pTok_f e, mach_none (h2 _ k e)]
    exact ⟨rfl, fun ⟨_, o, h⟩ => hp o h⟩
end
def StP (md : Md) (r : List Tok) : Prop := ∃ o, md = .bd o ∧ (o = true → isW (tok0 r) "or" = false)
def BdP (md : Md) (r : List Tok) : Prop := ∃ o, md = .bd o ∧ inV (.str (S (tok0 r))) stepV = false ∧ (o = true → isW (tok0 r) "or" = false)
theorem stP_f (r : List Tok) : StP (.bd false) r := ⟨false, rfl, fun h => by cases h⟩
section
variable {M n : Nat}
theorem fol_word {mid : Md} {pre : Md} (h : pre = .nw ∧ mid = .sm ∨ pre = .ni ∧ mid = .op .fi) : Fol M (pTok wordL) n pre (fun md _ => md = mid) := by
  rcases h with ⟨rfl, rfl⟩ | ⟨rfl, rfl⟩ <;> exact fol_tok (fun t k e => by simp [dl, e]) (fun t k e => by simp [dl, e]) (fun o h => by cases h)
theorem fol_class : Fol M (pTok classL) n .nc (fun md _ => md = .sm) := fol_tok (fun t k e => by simp [dl, e]) (fun t k e => by simp [dl, e]) (fun o h => by cases h)
theorem fol_is {x : Str} {pre mid : Md} (h : pre = .sm ∧ mid = .bd false ∧ x = ";" ∨ pre = .ael ∧ mid = .op .pl ∧ x = "else" ∨ pre = .aca ∧ mid = .op .pl ∧ x = "catch" ∨ pre = .aor ∧ mid = .op .fo ∧ x = "or") : Fol M (pTok (is x)) n pre (fun md _ => md = mid) := by
  rcases h with ⟨rfl, rfl, rfl⟩ | ⟨rfl, rfl, rfl⟩ | ⟨rfl, rfl, rfl⟩ | ⟨rfl, rfl, rfl⟩ <;> exact fol_tok (fun t k e => by simp only [dl]; exact if_pos e) (fun t k e => by simp only [dl]; exact if_neg (by rw [show isW t _ = false from e]; simp)) (fun o h => by cases h)
theorem fol_semi (d : List PyData) : Fol M (pSemi d) n .sm StP := fol_of (pSemi_eq d) (fol_bnd (fol_is (.inl ⟨rfl, rfl, rfl⟩)) fun _ => fol_ret stP_f)
variable {blk : List Tok → PR} (mb : Mon blk) (hb : ∀ f, Fol M blk n (.op f) (fun md _ => md = aft f))
include hb
theorem fol_if : Fol M (pIf blk) n .ni StP := fol_of pIf_eq (fol_bnd (fol_word (.inr ⟨rfl, rfl⟩)) fun _ => fol_bnd (hb .fi) fun _ => fol_bnd (fol_is (.inr (.inl ⟨rfl, rfl, rfl⟩))) fun _ => fol_bnd (hb .pl) fun _ => fol_ret stP_f)
theorem fol_try : Fol M (pTry blk) n (.op .ft) StP := fol_of pTry_eq (fol_bnd (hb .ft) fun _ => fol_bnd (fol_is (.inr (.inr (.inl ⟨rfl, rfl, rfl⟩)))) fun _ => fol_bnd (hb .pl) fun _ => fol_ret stP_f)
include mb
theorem fol_more : ∀ f acc ts (k : List Fr), ts.length < f → k.length + n = M → FolR M (pMore blk f acc ts) (mach M (.bd true) k ts) k StP
  | 0, _, _, _, h, _ => absurd h (Nat.not_lt_zero _)
  | f + 1, acc, ts, k, h, hk => by
    rw [pMore_eq]
    cases e : isW (tok0 ts) "or" with
    | false =>
      rw [if_neg (by simp)]
      exact ⟨.bd true, ⟨true, rfl, fun _ => e⟩, rfl⟩
    | true =>
      rw [if_pos rfl]
      have e1 := isW_iff.mp e
      have e2 : inV (.str (S (tok0 ts))) stepV = false := by rw [e1]; decide +kernel
      rw [mach_some (q := (.op .fo, k)) (by simp [dl, e, e2])]
      have h1 := hb .fo k ts.tail hk
      have h2 := mb ts.tail
      cases e3 : blk ts.tail with
      | error r => rw [e3] at h1; exact h1
      | ok x =>
        rw [e3] at h1 h2
        obtain ⟨md, rfl, hz⟩ := h1
        have h2 : x.2.length ≤ ts.tail.length := h2
        show FolR M (pMore blk f (acc ++ [x.1]) x.2) (mach M (.op .fo) k ts.tail) k StP
        rw [hz]
        refine fol_more f _ x.2 k ?_ hk
        cases ts with
        | nil => exact absurd e (by decide +kernel)
        | cons t ts => simp at h2 h; omega
theorem fol_either : Fol M (pEither blk) n (.op .fe) StP := fol_of pEither_eq (fol_bnd (hb .fe) fun a => fol_bnd (fol_is (.inr (.inr (.inr ⟨rfl, rfl, rfl⟩)))) fun _ => fol_bnd (hb .fo) fun b k r4 hk => by
  have h := fol_more mb hb (r4.length + 1) [a, b] r4 k (Nat.lt_succ_self _) hk
  show FolR M (bndR (pMore blk (r4.length + 1) [a, b] r4) _) _ _ _
  cases e : pMore blk (r4.length + 1) [a, b] r4 with
  | error r => rw [e] at h; exact h
  | ok x => rw [e] at h; exact h)
theorem fol_stepW (w : List Nat) : Fol M (pStepW blk w) n (dW w) StP := fol_of (pStepW_eq w) (by
  unfold dW
  by_cases c1 : isW w "loop" = true
  · rw [if_pos c1, if_pos c1]; exact fol_bnd (hb .pl) fun _ => fol_ret stP_f
  rw [if_neg c1, if_neg c1]
  by_cases c2 : isW w "if" = true
  · rw [if_pos c2, if_pos c2]; exact fol_if hb
  rw [if_neg c2, if_neg c2]
  by_cases c3 : isW w "try" = true
  · rw [if_pos c3, if_pos c3]; exact fol_try hb
  rw [if_neg c3, if_neg c3]
  by_cases c4 : isW w "either" = true
  · rw [if_pos c4, if_pos c4]; exact fol_either mb hb
  rw [if_neg c4, if_neg c4]
  refine fol_of (pSimple_eq w) ?_
  by_cases c5 : inV (.str (S w)) withV = true
  · rw [if_pos c5, if_pos c5]; exact fol_bnd (fol_word (.inl ⟨rfl, rfl⟩)) fun _ => fol_semi _
  rw [if_neg c5, if_neg c5]
  by_cases c6 : inV (.str (S w)) classV = true
  · rw [if_pos c6, if_pos c6]; exact fol_bnd fol_class fun _ => fol_semi _
  rw [if_neg c6, if_neg c6]
  exact fol_semi _)
theorem fol_loop : ∀ f acc ts (k : List Fr) (o : Bool), ts.length < f → k.length + n = M → (o = true → isW (tok0 ts) "or" = false) → FolR M (pLoop (pStep blk) f acc ts) (mach M (.bd o) k ts) k BdP
  | 0, _, _, _, _, h, _, _ => absurd h (Nat.not_lt_zero _)
  | f + 1, acc, ts, k, o, h, hk, ho => by
    rw [pLoop_eq]
    cases e : inV (.str (S (tok0 ts))) stepV with
    | false =>
      rw [if_neg (by simp)]
      exact ⟨.bd o, ⟨o, rfl, e, ho⟩, rfl⟩
    | true =>
      rw [if_pos rfl]
      rw [mach_some (q := (dW (tok0 ts), k)) (by simp [dl, e])]
      have h1 := fol_stepW mb hb (tok0 ts) k ts.tail hk
      have h2 := mon_stepT mb ts
      have e4 : pStep blk ts = pStepW blk (tok0 ts) ts.tail := rfl
      rw [← e4] at h1
      cases e3 : pStep blk ts with
      | error r => rw [e3] at h1; exact h1
      | ok x =>
        rw [e3] at h1 h2
        obtain ⟨md, ⟨o', rfl, ho'⟩, hz⟩ := h1
        have h2 : x.2.length ≤ ts.tail.length := h2
        show FolR M (pLoop (pStep blk) f (acc ++ [x.1]) x.2) (mach M (dW (tok0 ts)) k ts.tail) k BdP
        rw [hz]
        refine fol_loop f _ x.2 k o' ?_ hk ho'
        cases ts with
        | nil => exact absurd e (by decide +kernel)
        | cons t ts => simp at h2 h; omega
theorem fol_body (k : List Fr) (ts : List Tok) (hk : k.length + n = M) : FolR M (pBodyOf (pStep blk) ts) (mach M (.bd false) k ts) k BdP := by
  rw [pBodyOf_eq]
  have h := fol_loop mb hb (ts.length + 1) [] ts k false (Nat.lt_succ_self _) hk (fun h => by cases h)
  cases e : pLoop (pStep blk) (ts.length + 1) [] ts with
  | error r => rw [e] at h; exact h
  | ok x => rw [e] at h; exact h
omit mb hb in
theorem fol_braces {body : List Tok → PR} (hd : ∀ (k : List Fr) ts, k.length + n = M → FolR M (body ts) (mach M (.bd false) k ts) k BdP) (f : Fr) : Fol M (pBraces body) (n + 1) (.op f) (fun md _ => md = aft f) := fun k ts hk => by
  rw [pBraces_eq]
  have lt : k.length < M := by omega
  cases e1 : is "{" (tok0 ts) with
  | false =>
    rw [bnd_err (pTok_f e1), mach_none (by have e1 : isW (tok0 ts) "{" = false := e1; simp [dl, e1])]
    exact ⟨rfl, fun ⟨_, o, h⟩ => by cases h⟩
  | true =>
    rw [bnd_ok (pTok_t e1), mach_some (q := (.bd false, f :: k)) (by have e1 : isW (tok0 ts) "{" = true := e1; simp [dl, e1, lt])]
    have h := hd (f :: k) ts.tail (by simp; omega)
    show FolR M (bnd body _ ts.tail) (mach M (.bd false) (f :: k) ts.tail) k _
    cases e2 : body ts.tail with
    | error r => rw [bnd_err e2]; rw [e2] at h; exact h
    | ok x =>
      rw [bnd_ok e2]
      rw [e2] at h
      obtain ⟨_, ⟨o, rfl, h1, h2⟩, hz⟩ := h
      rw [hz]
      have h3 : (o && isW (tok0 x.2) "or") = false := by
        cases o with
        | false => rfl
        | true => exact h2 rfl
      cases e3 : is "}" (tok0 x.2) with
      | false =>
        have e3' : isW (tok0 x.2) "}" = false := e3
        rw [bnd_err (pTok_f e3), mach_none (by simp only [dl]; rw [h1, h3, e3']; rfl)]
        exact ⟨rfl, fun ⟨h, _⟩ => by cases h⟩
      | true =>
        have e3' : isW (tok0 x.2) "}" = true := e3
        rw [bnd_ok (pTok_t e3), mach_some (q := (aft f, k)) (by simp only [dl]; rw [h1, h3, e3']; rfl)]
        exact ⟨aft f, rfl, rfl⟩
end
theorem fol_blk {M : Nat} : ∀ n f, Fol M (blkN n) n (.op f) (fun md _ => md = aft f)
  | 0, f => fun k ts hk => by
    show FolR M (.error ts) _ _ _
    have hd : dl M (.op f) k (tok0 ts) = none := by
      have h : ¬ k.length < M := by omega
      simp [dl, h]
    rw [mach_none hd]
    exact ⟨rfl, fun ⟨_, o, h⟩ => by cases h⟩
  | n + 1, f => fol_braces (fun k ts hk => fol_body (blk_loc n).1 (fol_blk n) k ts hk) f
/-- the reading of a whole text is the machine's run -/
theorem read_err {M : Nat} {us r : List Tok} (h : bodyN M us = .error r) : (mach M (.bd false) [] us).2 = r ∧ ¬ Fin' (mach M (.bd false) [] us).1 := by
  have := fol_body (M := M) (blk_loc M).1 (fol_blk M) [] us (by simp)
  have h : pBodyOf (pStep (blkN M)) us = .error r := h
  rw [h] at this
  exact this
theorem read_okm {M : Nat} {us r : List Tok} {d : PyData} (h : bodyN M us = .ok (d, r)) : ∃ o, mach M (.bd false) [] us = ((.bd o, []), r) := by
  have := fol_body (M := M) (blk_loc M).1 (fol_blk M) [] us (by simp)
  have h : pBodyOf (pStep (blkN M)) us = .ok (d, r) := h
  rw [h] at this
  obtain ⟨_, ⟨o, rfl, h1, h2⟩, hz⟩ := this
  refine ⟨o, ?_⟩
  have h3 : (o && isW (tok0 r) "or") = false := by
    cases o with
    | false => rfl
    | true => exact h2 rfl
  rw [hz]
  refine mach_none ?_
  simp only [dl]
  rw [h1, h3]
  cases isW (tok0 r) "}" <;> rfl
theorem fails_at {M n : Nat} {us r : List Tok} {z : Md × List Fr} (h : mach M (.bd false) [] us = (z, r)) (hf : r ≠ [] ∨ ¬ Fin' z) : pFin n (bodyN M us) = .error (posOf n r) := by
  cases e : bodyN M us with
  | error r' =>
    have := (read_err e).1
    rw [h] at this
    have this : r = r' := this
    subst this
    rfl
  | ok x =>
    obtain ⟨d, r'⟩ := x
    obtain ⟨o, ho⟩ := read_okm e
    rw [h] at ho
    cases ho
    rcases hf with hf | hf
    · cases r with
      | nil => exact absurd rfl hf
      | cons t r => rfl
    · exact absurd ⟨rfl, o, rfl⟩ hf
/-! runs over texts -/
def run (M : Nat) : Md × List Fr → List (List Nat) → Option (Md × List Fr)
  | q, [] => some q
  | q, t :: ts => (dl M q.1 q.2 t).bind fun q' => run M q' ts
theorem run_app {M : Nat} : ∀ (p s : List (List Nat)) (q : Md × List Fr), run M q (p ++ s) = (run M q p).bind fun q' => run M q' s
  | [], _, _ => rfl
  | t :: p, s, q => by
    show (dl M q.1 q.2 t).bind (fun q' => run M q' (p ++ s)) = ((dl M q.1 q.2 t).bind fun q' => run M q' p).bind _
    cases dl M q.1 q.2 t with
    | none => rfl
    | some q' => exact run_app p s q'
theorem mach_run {M : Nat} : ∀ (p s : List (List Nat)) (q q' : Md × List Fr) (us : List Tok), run M q p = some q' → txs us = p ++ s → mach M q.1 q.2 us = mach M q'.1 q'.2 (us.drop p.length)
  | [], _, q, q', us, h, _ => by cases h; rfl
  | t :: p, s, q, q', us, h, e => by
    obtain ⟨e1, e2⟩ := tok0_strs (r := p ++ s) e
    have h : (dl M q.1 q.2 t).bind (fun q' => run M q' p) = some q' := h
    cases hd : dl M q.1 q.2 t with
    | none => rw [hd] at h; cases h
    | some q1 =>
      rw [hd] at h
      rw [mach_some (q := q1) (by rw [e1]; exact hd), mach_run p s q1 q' us.tail h e2]
      rw [List.length_cons, List.drop_tail]
theorem run_mach {M : Nat} : ∀ (us : List Tok) (q z : Md × List Fr), mach M q.1 q.2 us = (z, []) → run M q (txs us) = some z
  | [], q, z, h => by
    have h : ((q.1, q.2), ([] : List Tok)) = (z, []) := h
    cases h
    rfl
  | t :: us, q, z, h => by
    show (dl M q.1 q.2 t.2).bind (fun q' => run M q' (txs us)) = some z
    cases hd : dl M q.1 q.2 t.2 with
    | none =>
      rw [mach_none (ts := t :: us) hd] at h
      cases h
    | some q1 =>
      rw [mach_some (ts := t :: us) (q := q1) hd] at h
      exact run_mach us q1 z h
def st0 : Md × List Fr := (.bd false, [])
theorem run_body {n : Nat} {b : List Stp} (hok : okK (n + 1) b) : ∃ o, run n st0 (sgB b) = some (.bd o, []) := by
  have e : txs ((sgB b).map fun t => ((0, t) : Tok)) = sgB b := by simp [txs, Function.comp_def]
  obtain ⟨rest, h1, h2⟩ := body_ok (blkN_ok n) b ((sgB b).map fun t => ((0, t) : Tok)) [] hok (by rw [e, List.append_nil]) (by decide +kernel) (by simp)
  have h3 : rest = [] := by simpa [txs] using h1
  subst h3
  obtain ⟨o, h⟩ := read_okm (M := n) (us := (sgB b).map fun t => ((0, t) : Tok)) h2
  refine ⟨o, ?_⟩
  have := run_mach (M := n) _ st0 _ h
  rwa [e] at this
/-- where a text that begins as p fails behind p -/
theorem fails_behind {M n : Nat} {p s : List (List Nat)} {us : List Tok} {q : Md × List Fr} (hr : run M st0 p = some q) (hx : (s = [] ∧ ¬ Fin' q) ∨ ∃ x s', s = x :: s' ∧ dl M q.1 q.2 x = none) (hu : txs us = p ++ s) : pFin n (bodyN M us) = .error (posOf n (us.drop p.length)) := by
  have h1 := mach_run p s st0 q us hr hu
  have hd : txs (us.drop p.length) = s := by
    unfold txs at hu ⊢
    rw [List.map_drop, hu, List.drop_left]
  rcases hx with ⟨rfl, hf⟩ | ⟨x, s', rfl, hx⟩
  · have e0 : us.drop p.length = [] := by simpa [txs] using hd
    rw [e0] at h1 ⊢
    exact fails_at (z := q) h1 (.inr hf)
  · have e1 := (tok0_strs hd).1
    have hn : dl M q.1 q.2 (tok0 (us.drop p.length)) = none := by rw [e1]; exact hx
    rw [mach_none (md := q.1) (k := q.2) hn] at h1
    exact fails_at (z := (q.1, q.2)) h1 (.inl fun e => by rw [e] at hd; cases hd)

/-! ### 20. what the machine takes -/
section
variable {M : Nat} {md : Md} {k : List Fr} {t : List Nat} {q : Md × List Fr}
theorem isW_self (x : Str) : isW (kw x) x = true := isW_kw x
/-- every step of the machine: a bracket opens, closes, or the stack stays -/
theorem dl_stack (h : dl M md k t = some q) : (t = kw "{" ∧ ∃ f, md = .op f ∧ q = (.bd false, f :: k) ∧ k.length < M) ∨ (t = kw "}" ∧ ∃ f k', k = f :: k' ∧ q = (aft f, k')) ∨ (t ≠ kw "{" ∧ t ≠ kw "}" ∧ q.2 = k ∧ ((∃ o, q.1 = .bd o) → t = kw ";")) := by
  have w1 : ∀ {c : Bool} {q' : Md × List Fr}, (if c = true then some q' else none) = some q → c = true ∧ q = q' := by
    intro c q' h
    cases c with
    | true => exact ⟨rfl, (Option.some.inj h).symm⟩
    | false => cases h
  cases md with
  | bd o =>
    simp only [dl] at h
    split at h
    · rename_i hs
      cases h
      refine .inr (.inr ⟨fun e => ?_, fun e => ?_, rfl, ?_⟩)
      · rw [e] at hs; exact absurd hs (by decide +kernel)
      · rw [e] at hs; exact absurd hs (by decide +kernel)
      · rintro ⟨o, e⟩
        unfold dW at e
        have e : _ = Md.bd o := e
        split at e
        · cases e
        split at e
        · cases e
        split at e
        · cases e
        split at e
        · cases e
        split at e
        · cases e
        split at e
        · cases e
        · cases e
    · split at h
      · rename_i ho
        cases h
        rw [Bool.and_eq_true] at ho
        have e := isW_iff.mp ho.2
        subst e
        exact .inr (.inr ⟨by decide +kernel, by decide +kernel, rfl, fun ⟨o, e⟩ => by cases e⟩)
      · obtain ⟨h1, h⟩ : isW t "}" = true ∧ popF k = some q := by
          cases e : isW t "}" with
          | true => rw [e] at h; exact ⟨rfl, h⟩
          | false => rw [e] at h; cases h
        have e := isW_iff.mp h1
        cases k with
        | nil => cases h
        | cons f k => cases h; exact .inr (.inl ⟨e, f, k, rfl, rfl⟩)
  | op f =>
    obtain ⟨h1, rfl⟩ := w1 h
    rw [Bool.and_eq_true, decide_eq_true_eq] at h1
    exact .inl ⟨isW_iff.mp h1.1, f, rfl, rfl, h1.2⟩
  | nw =>
    obtain ⟨h1, rfl⟩ := w1 h
    exact .inr (.inr ⟨fun e => by rw [e] at h1; exact absurd h1 (by decide +kernel), fun e => by rw [e] at h1; exact absurd h1 (by decide +kernel), rfl, fun ⟨o, e⟩ => by cases e⟩)
  | ni =>
    obtain ⟨h1, rfl⟩ := w1 h
    exact .inr (.inr ⟨fun e => by rw [e] at h1; exact absurd h1 (by decide +kernel), fun e => by rw [e] at h1; exact absurd h1 (by decide +kernel), rfl, fun ⟨o, e⟩ => by cases e⟩)
  | nc =>
    obtain ⟨h1, rfl⟩ := w1 h
    exact .inr (.inr ⟨fun e => by rw [e] at h1; exact absurd h1 (by decide +kernel), fun e => by rw [e] at h1; exact absurd h1 (by decide +kernel), rfl, fun ⟨o, e⟩ => by cases e⟩)
  | sm =>
    obtain ⟨h1, rfl⟩ := w1 h
    have e := isW_iff.mp h1
    subst e
    exact .inr (.inr ⟨by decide +kernel, by decide +kernel, rfl, fun _ => rfl⟩)
  | ael =>
    obtain ⟨h1, rfl⟩ := w1 h
    have e := isW_iff.mp h1
    subst e
    exact .inr (.inr ⟨by decide +kernel, by decide +kernel, rfl, fun ⟨o, e⟩ => by cases e⟩)
  | aca =>
    obtain ⟨h1, rfl⟩ := w1 h
    have e := isW_iff.mp h1
    subst e
    exact .inr (.inr ⟨by decide +kernel, by decide +kernel, rfl, fun ⟨o, e⟩ => by cases e⟩)
  | aor =>
    obtain ⟨h1, rfl⟩ := w1 h
    have e := isW_iff.mp h1
    subst e
    exact .inr (.inr ⟨by decide +kernel, by decide +kernel, rfl, fun ⟨o, e⟩ => by cases e⟩)
/-- a word that begins a step is taken as such only -/
theorem dl_begin {x : Str} (h : dl M md k (kw x) = some q) (h1 : inV (.str x) stepV = true) (h2 : wordL (kw x) = false) (h3 : classL (kw x) = false) (h4 : isW (kw x) ";" = false ∧ isW (kw x) "{" = false ∧ isW (kw x) "else" = false ∧ isW (kw x) "catch" = false ∧ isW (kw x) "or" = false) : q = (dW (kw x), k) := by
  obtain ⟨h4, h5, h6, h7, h8⟩ := h4
  cases md <;> simp [dl, S_kw, h1, h2, h3, h4, h5, h6, h7, h8] at h
  exact h.symm
/-- else, catch, or: where they are taken -/
theorem dl_else (h : dl M md k (kw "else") = some q) : md = .ael ∧ q = (.op .pl, k) := by
  have h1 : inV (.str (S (kw "else"))) stepV = false := by decide +kernel
  have h2 : wordL (kw "else") = false := by decide +kernel
  have h3 : classL (kw "else") = false := by decide +kernel
  have h4 : isW (kw "else") ";" = false ∧ isW (kw "else") "{" = false ∧ isW (kw "else") "catch" = false ∧ isW (kw "else") "or" = false ∧ isW (kw "else") "}" = false := by decide +kernel
  have h0 := isW_kw "else"
  obtain ⟨h4, h5, h6, h7, h8⟩ := h4
  cases md <;> simp [dl, h0, h1, h2, h3, h4, h5, h6, h7, h8] at h
  exact ⟨rfl, h.symm⟩
theorem dl_catch (h : dl M md k (kw "catch") = some q) : md = .aca ∧ q = (.op .pl, k) := by
  have h1 : inV (.str (S (kw "catch"))) stepV = false := by decide +kernel
  have h2 : wordL (kw "catch") = false := by decide +kernel
  have h3 : classL (kw "catch") = false := by decide +kernel
  have h4 : isW (kw "catch") ";" = false ∧ isW (kw "catch") "{" = false ∧ isW (kw "catch") "else" = false ∧ isW (kw "catch") "or" = false ∧ isW (kw "catch") "}" = false := by decide +kernel
  have h0 := isW_kw "catch"
  obtain ⟨h4, h5, h6, h7, h8⟩ := h4
  cases md <;> simp [dl, h0, h1, h2, h3, h4, h5, h6, h7, h8] at h
  exact ⟨rfl, h.symm⟩
theorem dl_or (h : dl M md k (kw "or") = some q) : (md = .aor ∨ md = .bd true) ∧ q = (.op .fo, k) := by
  have h1 : inV (.str (S (kw "or"))) stepV = false := by decide +kernel
  have h2 : wordL (kw "or") = false := by decide +kernel
  have h3 : classL (kw "or") = false := by decide +kernel
  have h4 : isW (kw "or") ";" = false ∧ isW (kw "or") "{" = false ∧ isW (kw "or") "else" = false ∧ isW (kw "or") "catch" = false ∧ isW (kw "or") "}" = false := by decide +kernel
  have h0 := isW_kw "or"
  obtain ⟨h4, h5, h6, h7, h8⟩ := h4
  cases md with
  | bd o =>
    cases o <;> simp [dl, h0, h1, h8] at h
    exact ⟨.inr rfl, h.symm⟩
  | aor => simp [dl, h0] at h; exact ⟨.inl rfl, h.symm⟩
  | _ => simp [dl, h0, h1, h2, h3, h4, h5, h6, h7, h8] at h
end
section
variable {M : Nat} {q z : Md × List Fr} {p s : List (List Nat)} {t : List Nat}
theorem run_cut (h : run M q (p ++ s) = some z) : ∃ q', run M q p = some q' ∧ run M q' s = some z := by
  rw [run_app] at h
  cases e : run M q p with
  | none => rw [e] at h; cases h
  | some q' => rw [e] at h; exact ⟨q', rfl, h⟩
theorem run_cons (h : run M q (t :: s) = some z) : ∃ q', dl M q.1 q.2 t = some q' ∧ run M q' s = some z := by
  have h : (dl M q.1 q.2 t).bind (fun q' => run M q' s) = some z := h
  cases e : dl M q.1 q.2 t with
  | none => rw [e] at h; cases h
  | some q' => rw [e] at h; exact ⟨q', rfl, h⟩
theorem run_one {q' : Md × List Fr} (h : dl M q.1 q.2 t = some q') : run M q [t] = some q' := by
  show (dl M q.1 q.2 t).bind _ = _
  rw [h]
  rfl
theorem run_snoc {q' q'' : Md × List Fr} (h : run M q p = some q') (h2 : dl M q'.1 q'.2 t = some q'') : run M q (p ++ [t]) = some q'' := by
  rw [run_app, h]
  exact run_one h2
end
/-! the depth of the brackets -/
def dp1 (t : List Nat) : Int := if t = kw "{" then 1 else if t = kw "}" then -1 else 0
def dpt : List (List Nat) → Int
  | [] => 0
  | t :: l => dp1 t + dpt l
theorem dpt_app : ∀ a b, dpt (a ++ b) = dpt a + dpt b
  | [], b => by simp [dpt]
  | t :: a, b => by simp [dpt, dpt_app a b]; omega
theorem dp1_o : dp1 (kw "{") = 1 := by decide +kernel
theorem dp1_c : dp1 (kw "}") = -1 := by decide +kernel
theorem dp1_n {t : List Nat} (h1 : t ≠ kw "{") (h2 : t ≠ kw "}") : dp1 t = 0 := by simp [dp1, h1, h2]
theorem dl_dep {M : Nat} {md : Md} {k : List Fr} {t : List Nat} {q : Md × List Fr} (h : dl M md k t = some q) : (q.2.length : Int) = k.length + dp1 t := by
  rcases dl_stack h with ⟨rfl, f, _, rfl, _⟩ | ⟨rfl, f, k', rfl, rfl⟩ | ⟨h1, h2, e, _⟩
  · rw [dp1_o]; simp
  · rw [dp1_c]; simp; omega
  · rw [dp1_n h1 h2, e]; omega
theorem run_dep {M : Nat} : ∀ (p : List (List Nat)) {q z : Md × List Fr}, run M q p = some z → (z.2.length : Int) = q.2.length + dpt p
  | [], q, z, h => by cases h; simp [dpt]
  | t :: p, q, z, h => by
    obtain ⟨q', h1, h2⟩ := run_cons h
    have := dl_dep h1
    have := run_dep p h2
    simp only [dpt]
    omega
/-- what stands between a bracket and its other end leaves the stack below alone -/
theorem run_in {M : Nat} : ∀ (p : List (List Nat)) {q z : Md × List Fr} {l : List Fr} {f : Fr} {k : List Fr}, run M q p = some z → q.2 = l ++ f :: k → (∀ a b, p = a ++ b → a ≠ [] → 1 ≤ (l.length : Int) + 1 + dpt a) → ∃ l', z.2 = l' ++ f :: k
  | [], q, z, l, f, k, h, e, _ => by cases h; exact ⟨l, e⟩
  | t :: p, q, z, l, f, k, h, e, hd => by
    obtain ⟨q', h1, h2⟩ := run_cons h
    have e1 := dl_dep h1
    have d1 := hd [t] p rfl (by simp)
    simp only [dpt] at d1
    have : ∃ l1, q'.2 = l1 ++ f :: k := by
      rcases dl_stack h1 with ⟨rfl, f', _, rfl, _⟩ | ⟨rfl, f', k', ek, rfl⟩ | ⟨_, _, e', _⟩
      · exact ⟨f' :: l, by rw [e]; rfl⟩
      · rw [e] at ek
        cases l with
        | nil => rw [dp1_c] at d1; simp at d1
        | cons x l => cases ek; exact ⟨l, rfl⟩
      · exact ⟨l, by rw [e', e]⟩
    obtain ⟨l1, el⟩ := this
    refine run_in p h2 el fun a b eab ha => ?_
    have := hd (t :: a) b (by rw [eab]; rfl) (by simp)
    simp only [dpt] at this
    rw [e, el] at e1
    simp at e1
    omega
/-- a block whole: behind its bracket the machine is where the block's kind says -/
theorem run_block {M : Nat} {f : Fr} {k : List Fr} {p : List (List Nat)} {z : Md × List Fr} (h : run M (.op f, k) p = some z) (h0 : dpt p = 0) (hp : p ≠ []) (hd : ∀ a b, p = a ++ b → a ≠ [] → b ≠ [] → 1 ≤ dpt a) : z = (aft f, k) := by
  cases p with
  | nil => exact absurd rfl hp
  | cons t p =>
    obtain ⟨q', h1, h2⟩ := run_cons h
    rcases dl_stack h1 with ⟨rfl, f', ef, rfl, _⟩ | ⟨rfl, f', k', ek, rfl⟩ | ⟨n1, n2, e', _⟩
    · cases ef
      have hp2 : p ≠ [] := fun e => by rw [e] at h0; simp [dpt, dp1_o] at h0
      have ep : p = p.dropLast ++ [p.getLast hp2] := (List.dropLast_concat_getLast hp2).symm
      rw [ep] at h2
      obtain ⟨q2, h3, h4⟩ := run_cut h2
      obtain ⟨l', el⟩ := run_in (l := []) (f := f) (k := k) p.dropLast h3 rfl fun a b eab ha => by
        have := hd (kw "{" :: a) (b ++ [p.getLast hp2]) (by rw [List.cons_append, ← List.append_assoc, ← eab, ← ep]) (by simp) (by simp)
        simp only [dpt, dp1_o] at this
        simp
        omega
      obtain ⟨q3, h5, h6⟩ := run_cons h4
      cases h6
      have d2 := run_dep _ h3
      have d0 : dpt p.dropLast + dp1 (p.getLast hp2) = -1 := by
        have : dpt p = dpt p.dropLast + dpt [p.getLast hp2] := by
          conv => lhs; rw [ep]
          exact dpt_app _ _
        simp only [dpt, dp1_o] at h0 this
        omega
      have d3 := dl_dep h5
      rcases dl_stack h5 with ⟨et, f', _, rfl, _⟩ | ⟨et, f', k', ek, rfl⟩ | ⟨n1, n2, e', _⟩
      · rw [et, dp1_o] at d0 d3
        rw [el] at d2
        simp at d2
        omega
      · rw [et, dp1_c] at d0
        rw [el] at d2 ek
        simp at d2
        have : l' = [] := List.length_eq_zero_iff.mp (by omega)
        subst this
        cases ek
        rfl
      · rw [dp1_n n1 n2] at d0
        rw [el] at d2
        simp at d2
        omega
    · have hp2 : p ≠ [] := fun e => by rw [e] at h0; simp [dpt, dp1_c] at h0
      have := hd [kw "}"] p rfl (by simp) hp2
      simp [dpt, dp1_c] at this
    · by_cases hp2 : p = []
      · subst hp2
        exfalso
        simp only [dl] at h1
        split at h1
        · rename_i hc
          rw [Bool.and_eq_true] at hc
          exact n1 (isW_iff.mp hc.1)
        · cases h1
      · have := hd [t] p rfl (by simp) hp2
        simp [dpt, dp1_n n1 n2] at this

/-! ### list.count of texts -/
def rCntS (K : PySem.W.Frag) : V → List V → Hp → VK → Prop := fun x xs H Q => ∃ (p : Addr) (ys : List (List Nat)) (k : List Nat), x = .ref p ∧ xs = [.str (S k)] ∧ SqL K H p ((ys.map S).map V.str) ∧ Q (.int (ys.count k : Nat)) H
theorem strs_of_vals : ∀ {ys : List Str} {us : List Value}, Vals (ys.map V.str) us → StrsAre us ys
  | [], _, r => by cases r; exact .nil
  | y :: ys, _, r => by
    cases r with
    | cons h t =>
      obtain ⟨tk, rfl⟩ := h
      exact .cons _ _ (strs_of_vals t)
theorem countIn_S (k : List Nat) : ∀ ys : List (List Nat), Spec.countIn (.str (S k)) ((ys.map S).map PyData.str) = ((ys.count k : Nat) : Int) := by
  intro ys
  induction ys with
  | nil => rfl
  | cons y ys ih =>
    rw [List.map_cons, List.map_cons, Spec.countIn, ih, List.count_cons]
    simp only [Spec.same]
    have e : (S y == S k) = (y == k) := SX.S_beq y k
    rcases Bool.eq_false_or_eq_true (y == k) with hb | hb <;> simp only [e, hb, Bool.false_eq_true, if_true, if_false] <;> push_cast <;> omega
section
variable {X : Cx}
theorem mt_scount : MtR X "list.count" (rCntS X.K) := by
  intro pins s σ H x xs v us Q I rx rxs h
  obtain ⟨p, ys, k, rfl, rfl, hs, q⟩ := h
  cases rx
  obtain ⟨u, rfl, ru⟩ := vals1 rxs
  obtain ⟨t, rfl⟩ := ru
  obtain ⟨its, rv, hl, hlen⟩ := I.list hs
  refine count_list_strs (ys := ys.map S) hl.isList (strs_of_vals rv) ⟨.int (ys.count k : Nat), H, I.tok _, ⟨s.toks, ?_⟩, q⟩
  rw [countIn_S]
end

/-! rules within a comprehension's block, the written part said -/
section
variable {X : Cx} {K : PySem.W.Frag}
theorem kx_ixL (h : X.K = K) : IxR X (rIxL K) := h ▸ ix_list
theorem kx_ixT (h : X.K = K) : IxR X (rIxT K) := h ▸ ix_tup
theorem kx_in (h : X.K = K) : OpR X (compareOp .In) (rIn K false) := h ▸ op_in_seq
theorem kx_nin (h : X.K = K) : OpR X (compareOp .NotIn) (rIn K true) := h ▸ op_notIn_seq
theorem kx_eqD (h : X.K = K) (hu : X.A.units + 64 < cLine) : OpR X (compareOp .Eq) (rEqD K) := h ▸ op_eqD hu
theorem kx_neD (h : X.K = K) (hu : X.A.units + 64 < cLine) : OpR X (compareOp .NotEq) (rNeD K) := h ▸ op_neD hu
theorem kx_slL (h : X.K = K) : SlR X (rSlL K) := h ▸ sl_list
theorem kx_slT (h : X.K = K) : SlR X (rSlT K) := h ▸ sl_tup
theorem kx_catA (h : X.K = K) : OpR X (binaryOp .Add) (rCatA K) := h ▸ op_catA
theorem kx_len (h : X.K = K) : CallR X (.builtin "len") (fun xs H Q => ∃ p ys, xs = [.ref p] ∧ (SqL K H p ys ∨ SqT K H p ys) ∧ Q (.int ys.length) H) := h ▸ call_len_seq
theorem kx_lst (h : X.K = K) : CallR X (.type "list") (fun xs H Q => ∃ p ys, xs = [.ref p] ∧ (SqL K H p ys ∨ SqT K H p ys) ∧ ∀ l, H l = none → Q (.ref l) (upd H l (.lst ys))) := h ▸ call_list_of
theorem kx_tpl (h : X.K = K) : CallR X (.type "tuple") (fun xs H Q => ∃ p ys, xs = [.ref p] ∧ ((SqL K H p ys ∧ ∀ l, H l = none → Q (.ref l) (upd H l (.tup ys))) ∨ (SqT K H p ys ∧ Q (.ref p) H))) := h ▸ call_tuple_of
theorem kx_piL {tg e : Expr} {te : TE} (h : X.K = K) (he : PE X e te) : PI X tg e (iList K te) := h ▸ pi_list he
theorem kx_piT {tg e : Expr} {te : TE} (h : X.K = K) (he : PE X e te) : PI X tg e (iTup K te) := h ▸ pi_tup he
theorem kx_pgT {tg : Expr} {n : Nat} {t : TGs} (h : X.K = K) (p : PG X tg (gTup X.K n t)) : PG X tg (gTup K n t) := h ▸ p
end

/-! ### 21. the law's spoiling -/
theorem br_get {σ : L2.St} {H : Hp} {Q : VK} {t1 t2 ty : TE} {x y : Int} {t : List Nat} (h1 : ∀ H (Q : VK), Q (.int x) H → t1 σ H Q) (h2 : ∀ H (Q : VK), Q (.int y) H → t2 σ H Q)
    (ht : ∀ H', Same H H' → ∀ Q : VK, Q (.str (S t)) H' → ty σ H' Q) (q : ∀ H', Same H H' → Q (.int (if t = kw "{" then x else if t = kw "}" then y else 0)) H') :
    tDGet2 (tDisp [(tC (.str "{"), t1), (tC (.str "}"), t2)]) ty (tC (.int 0)) σ H Q := by
  intro p hp
  have em : mergeK [] [((.inr "{" : Key), V.int x), (.inr "}", .int y)] = [((.inr "{" : Key), V.int x), (.inr "}", .int y)] := by
    have : ¬ (("{" : Str) = "}") := by decide +kernel
    simp [mergeK, putK, this]
  have s0 : Same H (upd (upd H p (.dK [])) p (.dK (mergeK [] [((.inr "{" : Key), V.int x), (.inr "}", .int y)]))) := fun a o e => by
    rw [upd_ne (ne_of_none e hp), upd_ne (ne_of_none e hp)]
    exact e
  refine h1 _ _ (h2 _ _ ⟨upd_same, [((.inr "{" : Key), V.int x), (.inr "}", .int y)], rfl, (by show 2 ≤ 15; decide), p, rfl, .inl ⟨_, .inl upd_same⟩, ht _ s0 _ ⟨_, .inl ⟨_, .inr (S t), .inl upd_same, rfl, rfl⟩, ?_⟩⟩)
  rw [em]
  have k1 : (("{" : Str) = S t) ↔ t = kw "{" := ⟨fun e => by rw [kw, e], fun e => by rw [e, S_kw]⟩
  have k2 : (("}" : Str) = S t) ↔ t = kw "}" := ⟨fun e => by rw [kw, e], fun e => by rw [e, S_kw]⟩
  have q := q _ s0
  rw [em] at q
  by_cases c1 : t = kw "{"
  · rw [if_pos c1] at q
    rw [valV_pos (by rw [k1.mpr c1])]
    exact q
  rw [if_neg c1] at q
  rw [valV_neg (fun e => c1 (k1.mp (by cases e; rfl)))]
  by_cases c2 : t = kw "}"
  · rw [if_pos c2] at q
    rw [valV_pos (by rw [k2.mpr c2])]
    exact q
  rw [if_neg c2] at q
  rw [valV_neg (fun e => c2 (k2.mp (by cases e; rfl))), valV_nil]
  exact q
section
variable {P : Program} {w : World} {K : PySem.W.Frag} {mg : Str → Option Value} {base : Heap} {Z : Addrs}
def deepF : Int → Int → List (List Nat) → Int
  | _, _, [] => -1
  | d, i, t :: ts => if d + dp1 t = 7 then i else deepF (d + dp1 t) (i + 1) ts
def spDeep : Sp := fun vs H Q _ => ∃ (p : Addr) (ts : List (List Nat)), vs = [.ref p] ∧ H p = some (.lst (txV ts)) ∧ ∀ H', Same H H' → Q (.int (deepF 0 0 ts)) H'
theorem c__law_deep (T : Txt K mg Z) : Cal P w K mg base 3 "_law_deep" spDeep [] := by
  refine cal_of T.d__law_deep sc__law_deep (fun vs H Q E h => ?_) (fun f cdv A outer s H vs Q E hr h => ?_)
  · obtain ⟨p, ts, rfl, _⟩ := h
    rfl
  · obtain ⟨p, ts, rfl, hp, k⟩ := h
    refine ⟨_, (pss_cons (ps_set (i := 1) sc__law_deep.nd rfl (by first | exact Or.inl rfl | exact Or.inr rfl) pe_int)
      (pss_cons (ps_for PassesOwn.never rfl (pi_enum rfl T.b_enumerate (pa_cons (pv 0) pa_nil)) (pg_tup (by rfl) (pgs_cons (pg_name (i := 2) sc__law_deep.nd rfl (by first | exact Or.inl rfl | exact Or.inr rfl)) (pgs_cons (pg_name (i := 3) sc__law_deep.nd rfl (by first | exact Or.inl rfl | exact Or.inr rfl)) pgs_nil))) (pss_cons (ps_set (i := 1) sc__law_deep.nd rfl (by first | exact Or.inl rfl | exact Or.inr rfl) (pe_op op_add (pv 1) (pe_dget2 (hu_of hr) (pe_disp (pps_cons pe_str pe_int (pps_cons pe_str (pe_un un_neg pe_int) pps_nil)) (by rfl) (by rfl) (fun z => by cases z) (by decide)) (pv 3) pe_int ⟨rfl, rfl, rfl, rfl⟩)))
      (pss_one (ps_if (pt_cmpR op_eq (pv 1) pe_int (nomark _)) (pss_one (ps_ret (pv 2))) pss_nil))))
      (pss_one (ps_ret (pe_un un_neg pe_int))))), ?_⟩
    refine ⟨_, rfl, p, _, rfl, SqL.of hp, ?_⟩
    refine for_it walk_enum (fun j σ H2 => ∃ (d : Int) (v2 v3 : Option V), σ = [some (.ref p), some (.int d), v2, v3] ∧ deepF 0 0 ts = deepF d j (ts.drop j) ∧ Same H H2) ⟨0, none, none, rfl, rfl, fun _ _ e => e⟩ (fun _ _ _ _ h => SqL.of (h.choose_spec.choose_spec.choose_spec.2.2 _ _ hp)) ?_ ?_
    · rintro j y σ H2 H3 hj ⟨d, v2, v3, rfl, hd, s2⟩ ⟨T0, y1, y2, rfl, hT0, rfl, q1, q2⟩
      cases q1
      obtain ⟨t, ht, rfl⟩ : ∃ t, ts[j]? = some t ∧ y2 = .str (S t) := by
        have : (txV ts)[j]? = some y2 := q2
        simp only [txV, List.getElem?_map] at this
        cases e : ts[j]? with
        | none => rw [e] at this; cases this
        | some t => rw [e] at this; cases this; exact ⟨t, rfl, rfl⟩
      have s3 : Same H _ := s2.trans (Same.new (o := .tup [V.int (j : Nat), V.str (S t)]) hT0)
      refine ⟨T0, _, rfl, SqT.of upd_same, rfl, _, _, rfl, _, _, rfl, rfl, ?_⟩
      refine ⟨_, rfl, br_get (x := 1) (y := -1) (t := t) (fun _ _ h => h) (fun _ _ h => ⟨_, rfl, h⟩) (fun _ _ _ h => ⟨_, rfl, h⟩) fun H4 s4 => ⟨_, _, rfl, rfl, ?_⟩⟩
      refine ⟨_, rfl, rfl, _, rfl, ?_⟩
      have hj2 := (List.getElem?_eq_some_iff.mp ht).1
      have e1 : ts.drop j = t :: ts.drop (j + 1) := by
        rw [List.drop_eq_getElem_cons hj2, (List.getElem?_eq_some_iff.mp ht).2]
      rw [e1] at hd
      have e2 : (if t = kw "{" then (1 : Int) else if t = kw "}" then -1 else 0) = dp1 t := rfl
      rw [e2]
      simp only [deepF] at hd
      refine ite2 (fun c => ?_) (fun c => ?_)
      · have c : d + dp1 t = 7 := by
          have := of_decide_eq_true c
          exact V.int.inj this
        rw [if_pos c] at hd
        refine ⟨_, rfl, ?_⟩
        rw [← hd]
        exact k H4 (s3.trans s4)
      · have c : ¬ d + dp1 t = 7 := fun e => c (decide_eq_true (by show V.int (d + dp1 t) = V.int 7; rw [e]))
        rw [if_neg c] at hd
        refine ⟨d + dp1 t, _, _, rfl, ?_, s3.trans s4⟩
        rw [hd]
        rfl
    · rintro σ H2 ⟨d, v2, v3, rfl, hd, s2⟩
      refine ⟨_, rfl, ?_⟩
      have e : deepF 0 0 ts = -1 := by
        rw [hd, show (txV ts).length = ts.length from txV_len _, List.drop_length]
        rfl
      have := k H2 s2
      rw [e] at this
      exact this
/-- tokens met on the way from i by steps of j: us -/
def Way (ts : List (List Nat)) (i j : Int) (us : List (List Nat)) : Prop := ∀ (m : Nat) (t : List Nat), us[m]? = some t → ∃ n : Nat, i + (m : Int) * j = n ∧ ts[n]? = some t
def spOther : Sp := fun vs H Q _ => ∃ (p : Addr) (ts us : List (List Nat)) (i j : Int), vs = [.ref p, .int i, .int j] ∧ H p = some (.lst (txV ts)) ∧ ts.length ≤ 2000 ∧ (j = 1 ∨ j = -1) ∧ Way ts i j us ∧ us ≠ [] ∧ us.length ≤ ts.length ∧ dpt us = 0 ∧
  (∀ a b, us = a ++ b → a ≠ [] → b ≠ [] → dpt a ≠ 0) ∧ ∀ H', Same H H' → Q (.int (i + ((us.length - 1 : Nat) : Int) * j)) H'
theorem c__law_other_end (T : Txt K mg Z) : Cal P w K mg base 3 "_law_other_end" spOther [] := by
  refine cal_of T.d__law_other_end sc__law_other_end (fun vs H Q E h => ?_) (fun f cdv A outer s H vs Q E hr h => ?_)
  · obtain ⟨p, ts, us, _, _, rfl, _⟩ := h
    rfl
  · obtain ⟨p, ts, us, i, j, rfl, hp, hlen, hj, hw, hne, hul, h0, hpre, k⟩ := h
    refine ⟨_, (pss_cons (ps_set (i := 3) sc__law_other_end.nd rfl (by first | exact Or.inl rfl | exact Or.inr rfl) pe_int)
      (pss_cons (ps_for PassesOwn.never rfl (pi_range1 rfl T.b_range (pa_cons (pe_callB call_len_seq (by rfl) T.b_len (by decide +kernel) (pa_cons (pv 0) pa_nil)) pa_nil)) (pg_name (i := 4) sc__law_other_end.nd rfl (by first | exact Or.inl rfl | exact Or.inr rfl)) (pss_cons (ps_set (i := 3) sc__law_other_end.nd rfl (by first | exact Or.inl rfl | exact Or.inr rfl) (pe_op op_add (pv 3) (pe_dget2 (hu_of hr) (pe_disp (pps_cons pe_str (pv 2) (pps_cons pe_str (pe_un un_neg (pv 2)) pps_nil)) (by rfl) (by rfl) (fun z => by cases z) (by decide)) (pe_ix ix_list (pv 0) (pe_op op_add (pv 1) (pe_op op_mul (pv 4) (pv 2))) (fun _ _ => rfl)) pe_int ⟨rfl, rfl, rfl, rfl⟩)))
      (pss_one (ps_if (pt_cmpR op_eq (pv 3) pe_int (nomark _)) (pss_one (ps_ret (pe_op op_add (pv 1) (pe_op op_mul (pv 4) (pv 2))))) pss_nil))))
      (pss_one (ps_ret pe_int)))), ?_⟩
    refine ⟨_, rfl, p, _, rfl, .inl (SqL.of hp), _, rfl, (by rw [txV_len]; omega), (by rw [txV_len]; omega), ?_⟩
    refine for_it walk_range (fun m σ H2 => ∃ (v4 : Option V), σ = [some (.ref p), some (.int i), some (.int j), some (.int (j * dpt (us.take m))), v4] ∧ m < us.length ∧ Same H H2) ⟨none, by simp [dpt]; rfl, List.length_pos_iff.mpr hne, fun _ _ e => e⟩ (fun _ _ _ _ _ => trivial) ?_ ?_
    · rintro m x σ H2 H3 hm ⟨v4, rfl, hmu, s2⟩ ⟨rfl, rfl⟩
      have eu : us[m]? = some us[m] := List.getElem?_eq_getElem hmu
      obtain ⟨n, en, et⟩ := hw m _ eu
      have cm : CMul (0 + (m : Int)) j := by
        rcases hj with rfl | rfl <;> exact .inr ⟨by decide, by decide⟩
      refine ⟨_, rfl, br_get (x := j) (y := -j) (t := us[m]) (fun _ _ h => ⟨_, rfl, h⟩) (fun _ _ h => ⟨_, rfl, _, rfl, h⟩) (fun H5 s5 Q' h => ⟨_, rfl, _, rfl, _, rfl, _, rfl, _, _, rfl, rfl, cm, _, _, rfl, rfl, p, txV ts, i + (0 + (m : Int)) * j, .str (S us[m]), rfl, rfl, SqL.of (s5 _ _ (s2 _ _ hp)), ?_, h⟩) fun H4 s4 => ⟨_, _, rfl, rfl, ?_⟩⟩
      · rw [Int.zero_add, en]
        exact atI_nat (by simp [txV, et])
      have e2 : (if us[m] = kw "{" then j else if us[m] = kw "}" then -j else 0) = j * dp1 us[m] := by
        unfold dp1
        split
        · omega
        · split <;> omega
      have e3 : j * dpt (us.take m) + j * dp1 us[m] = j * dpt (us.take (m + 1)) := by
        have : us.take (m + 1) = us.take m ++ [us[m]] := by rw [List.take_add_one, eu]; rfl
        rw [this, dpt_app]
        simp only [dpt]
        rw [Int.mul_add, Int.add_zero]
      rw [e2]
      refine ⟨_, rfl, rfl, _, rfl, ?_⟩
      show if decide (V.int (j * dpt (us.take m) + j * dp1 us[m]) = V.int 0) = true then _ else _
      rw [e3]
      have ej : j * dpt (us.take (m + 1)) = 0 ↔ dpt (us.take (m + 1)) = 0 := by
        rcases hj with rfl | rfl <;> constructor <;> intro h <;> omega
      have es : us = us.take (m + 1) ++ us.drop (m + 1) := (List.take_append_drop _ _).symm
      refine ite2 (fun c => ?_) (fun c => ?_)
      · have c := ej.mp (V.int.inj (of_decide_eq_true c))
        have hd : us.drop (m + 1) = [] := Decidable.byContradiction fun h => hpre _ _ es (fun e => by
          have := congrArg List.length e
          rw [List.length_take, List.length_nil] at this
          omega) h c
        have hl : us.length - 1 = m := by
          have := List.drop_eq_nil_iff.mp hd
          omega
        refine ⟨_, rfl, _, rfl, _, rfl, _, _, rfl, rfl, cm, _, _, rfl, rfl, ?_⟩
        have := k H4 (s2.trans s4)
        rw [hl] at this
        rw [Int.zero_add]
        exact this
      · have c : dpt (us.take (m + 1)) ≠ 0 := fun e => c (decide_eq_true (by rw [ej.mpr e]))
        refine ⟨some (.int (0 + (m : Int))), by rw [← e3]; rfl, ?_, s2.trans s4⟩
        apply Decidable.byContradiction
        intro h
        have : us.take (m + 1) = us := List.take_of_length_le (by omega)
        rw [this] at c
        exact c h0
    · rintro σ H2 ⟨v4, rfl, hmu, s2⟩
      exfalso
      rw [txV_len] at hmu
      omega
end
theorem lays_txs : ∀ ts : List (List Nat), (∀ t ∈ ts, Asc t) → PyData.canLayAll0 (ts.map fun t => PyData.str (S t)) = true ∧ PyData.depthAll (ts.map fun t => PyData.str (S t)) = 0
  | [], _ => ⟨rfl, rfl⟩
  | t :: ts, h => by
    obtain ⟨h1, h2⟩ := lays_txs ts fun c hc => h c (List.mem_cons_of_mem _ hc)
    rw [List.map_cons]
    exact ⟨by rw [PyData.canLayAll0, h1, PyData.canLay0, strOk_S (h t List.mem_cons_self)]; rfl, by rw [PyData.depthAll, h2]; rfl⟩
theorem shaped_txs {ts : List (List Nat)} (h : ∀ t ∈ ts, Asc t) : SeqAt.shaped (.list (ts.map fun t => .str (S t))) = true := by
  obtain ⟨h1, h2⟩ := lays_txs ts h
  unfold SeqAt.shaped
  rw [PyData.canLay0, h1, PyData.depth, h2]
  rfl
theorem dpA_txs {K : PySem.W.Frag} {H : Hp} : ∀ ts : List (List Nat), DpAll K H (txV ts) (ts.map fun t => .str (S t))
  | [] => .nil
  | t :: ts => .cons (.str _) (dpA_txs ts)
theorem flat_txs (ts : List (List Nat)) : (txV ts).all flatV = true := by
  rw [List.all_eq_true]
  intro x hx
  obtain ⟨t, _, rfl⟩ := List.mem_map.mp hx
  rfl
def openB (ts : List (List Nat)) : Bool := match ts.getLast? with
  | none => false
  | some t => !inV (.str (S t)) [.str "}", .str ";"] || decide (((ts.count (kw "}") : Nat) : Int) < ((ts.count (kw "{") : Nat) : Int))
section
variable {P : Program} {w : World} {K : PySem.W.Frag} {mg : Str → Option Value} {base : Heap} {Z : Addrs}
def spOpen (K : PySem.W.Frag) : Sp := fun vs H Q _ => ∃ (p : Addr) (ts : List (List Nat)), vs = [.ref p] ∧ SqL K H p (txV ts) ∧ (∀ t ∈ ts, Asc t) ∧ ∀ H', Same H H' → Q (.bl (openB ts)) H'
theorem c__law_is_open (T : Txt K mg Z) : Cal P w K mg base 3 "_law_is_open" (spOpen K) [] := by
  refine cal_of T.d__law_is_open sc__law_is_open (fun vs H Q E h => ?_) (fun f cdv A outer s H vs Q E hr h => ?_)
  · obtain ⟨p, ts, rfl, _⟩ := h
    rfl
  · obtain ⟨p, ts, rfl, hp, asc, k⟩ := h
    refine ⟨_, (pss_cons (ps_if (pt_cmpR (op_eqD hr.units) (pv 0) (pe_lst pa_nil) (nomark _)) (pss_one (ps_ret pe_bl)) pss_nil)
      (pss_one (ps_ret (pe_or (pe_cmpR op_notIn_seq (pe_ix ix_list (pv 0) (pe_un un_neg pe_int) (fun _ _ => rfl)) (pe_lst (pa_cons pe_str (pa_cons pe_str pa_nil))) (by with_unfolding_all rfl)) (pe_one (pe_cmpR op_gt (pe_bm PySem.F.plainAttrs_list PySem.F.slot_list_count PySem.F.type_list_count mt_scount (pv 0) (pa_cons pe_str pa_nil)) (pe_bm PySem.F.plainAttrs_list PySem.F.slot_list_count PySem.F.type_list_count mt_scount (pv 0) (pa_cons pe_str pa_nil)) (nomark _))))))), ?_⟩
    refine ⟨_, rfl, sz (by simp), fun p2 n2 => ?_⟩
    have s0 := Same.new (o := .lst []) n2
    refine ⟨_, .list [], .lst (s0.seq hp) (dpA_txs ts), .lst (SqL.of upd_same) .nil, shaped_txs asc, rfl, _, rfl, ?_⟩
    rcases List.eq_nil_or_concat ts with rfl | ⟨l, t, rfl⟩
    · exact k _ s0
    have ne : PyData.eqv (.list ((l ++ [t]).map fun t => .str (S t))) (.list []) = false := by
      cases l <;> rfl
    have et : txV (l ++ [t]) = txV l ++ [V.str (S t)] := by simp [txV]
    rw [List.concat_eq_append] at *
    rw [ne]
    have hp2 := s0.seq hp
    refine iteF ?_
    refine ⟨_, rfl, _, rfl, p, txV (l ++ [t]), -1, .str (S t), rfl, rfl, hp2, by rw [et]; exact atI_last _ _, by decide, fun p3 n3 => ⟨p3, _, rfl, .inl (SqL.of upd_same), rfl, rfl, _, rfl, ?_⟩⟩
    have s1 := s0.trans (Same.new (o := .lst [V.str "}", V.str ";"]) n3)
    have ho : openB (l ++ [t]) = (!inV (.str (S t)) [.str "}", .str ";"] || decide ((((l ++ [t]).count (kw "}") : Nat) : Int) < (((l ++ [t]).count (kw "{") : Nat) : Int))) := by
      unfold openB
      rw [List.getLast?_append]
      rfl
    rw [ho] at k
    refine ite2 (fun c => ?_) (fun c => ?_)
    · have c : (!inV (.str (S t)) [.str "}", .str ";"]) = true := c
      rw [c] at k
      exact k _ s1
    · have c : (!inV (.str (S t)) [.str "}", .str ";"]) = false := by simpa using c
      rw [c] at k
      have hp3 : SqL K (upd (upd H p2 (HO.lst [])) p3 (HO.lst [V.str "}", V.str ";"])) p (((l ++ [t]).map S).map V.str) := by
        have := s1.seq hp
        rw [show txV (l ++ [t]) = ((l ++ [t]).map S).map V.str by simp [txV]] at this
        exact this
      refine ⟨_, rfl, .inl ⟨rfl, _, hp3⟩, p, l ++ [t], kw "{", rfl, by rw [S_kw], hp3, _, rfl, .inl ⟨rfl, _, hp3⟩, p, l ++ [t], kw "}", rfl, by rw [S_kw], hp3, _, _, rfl, rfl, ?_⟩
      exact k _ s1
end

/-! ### 22. the law's spoiling: a wrong word -/
theorem lc_it {J : It} {n : Nat} {G : Hp → Prop} {Y : Nat → Hp → V → Hp → Prop} (w : Walk J n G Y) {stp : V → Hp → (Hp → Prop) → Prop} {fin : Hp → Prop} (Pv : Nat → Hp → Prop) {H0 : Hp} (h0 : Pv 0 H0) (hG : ∀ i H, i ≤ n → Pv i H → G H)
    (hs : ∀ i x H H', i < n → Pv i H → Y i H x H' → stp x H' (Pv (i + 1))) (hd : ∀ H, Pv n H → fin H) :
    ∃ W : Nat → Nat → Hp → Prop, (∃ m, W 0 m H0) ∧ ∀ i m H, W i m H → (J.stop i H ∧ fin H) ∨ (J.go i H ∧ ∃ Nx : Hp → Prop, (∀ H', Nx H' → ∃ m', m' < m ∧ W (i + 1) m' H') ∧ ∀ x H', J.yld i H x H' → stp x H' Nx) := by
  refine ⟨fun i m H => m = n - i ∧ i ≤ n ∧ Pv i H, ⟨n, by simp, Nat.zero_le _, h0⟩, ?_⟩
  rintro i m H ⟨rfl, hi, p⟩
  have q := hG i H hi p
  by_cases hlt : i < n
  · exact .inr ⟨w.goes i H hlt q, Pv (i + 1), fun H' p' => ⟨n - (i + 1), by omega, rfl, hlt, p'⟩, fun x H' y => hs i x H H' hlt p (w.yields i H x H' hlt q y)⟩
  · obtain rfl : i = n := by omega
    exact .inl ⟨w.stops H q, hd H p⟩
/-- the numbers from 1 on, i of them, with P -/
def fl (P : Nat → Bool) (i : Nat) : List Nat := ((List.range i).map (· + 1)).filter P
theorem fl_succ (P : Nat → Bool) (i : Nat) : fl P (i + 1) = if P (i + 1) = true then fl P i ++ [i + 1] else fl P i := by
  unfold fl
  rw [List.range_succ, List.map_append, List.filter_append]
  cases h : P (i + 1) <;> simp [h]
theorem fl_mem {P : Nat → Bool} {i x : Nat} (h : x ∈ fl P i) : 1 ≤ x ∧ x ≤ i ∧ P x = true := by
  obtain ⟨h1, h2⟩ := List.mem_filter.mp h
  obtain ⟨y, hy, rfl⟩ := List.mem_map.mp h1
  have := List.mem_range.mp hy
  exact ⟨by omega, by omega, h2⟩
theorem fl_len (P : Nat → Bool) (i : Nat) : (fl P i).length ≤ i := by
  unfold fl
  exact Nat.le_trans (List.length_filter_le _ _) (by simp)
def nV (ns : List Nat) : List V := ns.map fun n => V.int (n : Nat)
theorem nV_snoc (ns : List Nat) (i : Nat) : nV (ns ++ [i + 1]) = nV ns ++ [V.int (1 + (i : Nat))] := by
  simp [nV]
  omega
theorem nV_app (a b : List Nat) : nV a ++ nV b = nV (a ++ b) := by simp [nV]
theorem dpA_nV {K : PySem.W.Frag} {H : Hp} : ∀ ns : List Nat, DpAll K H (nV ns) (ns.map fun n => .int (n : Nat))
  | [] => .nil
  | n :: ns => .cons (.int _) (dpA_nV ns)
theorem lays_nV : ∀ ns : List Nat, PyData.canLayAll0 (ns.map fun n => PyData.int (n : Nat)) = true ∧ PyData.depthAll (ns.map fun n => PyData.int (n : Nat)) = 0
  | [] => ⟨rfl, rfl⟩
  | n :: ns => by
    obtain ⟨h1, h2⟩ := lays_nV ns
    rw [List.map_cons]
    exact ⟨by rw [PyData.canLayAll0, h1, PyData.canLay0]; rfl, by rw [PyData.depthAll, h2]; rfl⟩
theorem shaped_nV (ns : List Nat) : SeqAt.shaped (.list (ns.map fun n => .int (n : Nat))) = true := by
  obtain ⟨h1, h2⟩ := lays_nV ns
  unfold SeqAt.shaped
  rw [PyData.canLay0, h1, PyData.depth, h2]
  rfl
theorem flat_nV (ns : List Nat) : (nV ns).all flatV = true := by
  rw [List.all_eq_true]
  intro x hx
  obtain ⟨t, _, rfl⟩ := List.mem_map.mp hx
  rfl
theorem cut_to (ts : List (List Nat)) (x : Nat) (h : x ≤ ts.length) : cutV (txV ts) none (some (x : Nat)) = txV (ts.take x) := by
  unfold cutV
  rw [txV_len]
  have e1 : HT.sIx ts.length 0 none = 0 := rfl
  have e2 : HT.sIx ts.length ts.length (some ((x : Nat) : Int)) = x := by
    rw [HT.sIx_nat]
    omega
  rw [e1, e2]
  simp [txV, List.map_take]
theorem cut_from (ts : List (List Nat)) (x : Nat) : cutV (txV ts) (some (x : Nat)) none = txV (ts.drop x) := by
  unfold cutV
  rw [txV_len]
  have e1 : HT.sIx ts.length ts.length none = ts.length := rfl
  have e2 : HT.sIx ts.length 0 (some ((x : Nat) : Int)) = min x ts.length := HT.sIx_nat _ _ _
  rw [e1, e2]
  by_cases h : x ≤ ts.length
  · rw [Nat.min_eq_left h]
    rw [List.take_of_length_le (by simp [txV])]
    simp [txV, List.map_drop]
  · rw [Nat.min_eq_right (by omega), Nat.sub_self, List.take_zero]
    rw [List.drop_eq_nil_of_le (by omega)]
    rfl
theorem inV_nV {x : Nat} {ns : List Nat} (h : inV (.int (x : Nat)) (nV ns) = true) : x ∈ ns := by
  unfold inV at h
  rw [List.any_eq_true] at h
  obtain ⟨v, hv, e⟩ := h
  obtain ⟨y, hy, rfl⟩ := List.mem_map.mp hv
  have e : ((y : Int) == (x : Int)) = true := e
  have : y = x := by
    have := eq_of_beq e
    omega
  rwa [← this]
theorem nV_inV {x : Nat} {ns : List Nat} (h : x ∈ ns) : inV (.int (x : Nat)) (nV ns) = true := by
  unfold inV
  rw [List.any_eq_true]
  exact ⟨_, List.mem_map_of_mem h, by simp [eqV]⟩
def bad1 : List (List Nat) := [kw "value", kw ";", kw "{", kw "aB", kw "super", kw "aqzmaqzma", kw "Aaaa"]
def bad2 : List (List Nat) := [kw "value", kw ";", kw "{", kw "aB", kw "a", kw "aqzm", kw "ABc"]
def tokB (z : List Nat) : Bool := decide (z.length ≤ 9) && ((!z.isEmpty && z.all isL) || (z.length == 1 && z.all fun c => !blC c && !isL c))
theorem tokB_ok {z : List Nat} (h : tokB z = true) : IsTok z ∧ z.length ≤ 9 := by
  unfold tokB at h
  rw [Bool.and_eq_true, decide_eq_true_eq, Bool.or_eq_true] at h
  refine ⟨?_, h.1⟩
  rcases h.2 with h | h
  · rw [Bool.and_eq_true, List.all_eq_true] at h
    exact .inl ⟨fun e => by rw [e] at h; simp at h, h.2⟩
  · rw [Bool.and_eq_true] at h
    match z, h with
    | [c], h =>
      have h2 := h.2
      simp at h2
      exact .inr ⟨c, rfl, h2.1, h2.2⟩
    | [], h => simp at h
    | _ :: _ :: _, h => simp at h
theorem bad1_ok : ∀ z ∈ bad1, tokB z = true ∧ wordL z = false := by
  have : (bad1.all fun z => tokB z && !wordL z) = true := by decide +kernel
  intro z hz
  have := List.all_eq_true.mp this z hz
  simpa using this
theorem bad2_ok : ∀ z ∈ bad2, tokB z = true ∧ classL z = false := by
  have : (bad2.all fun z => tokB z && !classL z) = true := by decide +kernel
  intro z hz
  have := List.all_eq_true.mp this z hz
  simpa using this
theorem bad1_V : txV bad1 = [.str "value", .str ";", .str "{", .str "aB", .str "super", .str "aqzmaqzma", .str "Aaaa"] := by
  simp [txV, bad1, S_kw]
theorem bad2_V : txV bad2 = [.str "value", .str ";", .str "{", .str "aB", .str "a", .str "aqzm", .str "ABc"] := by
  simp [txV, bad2, S_kw]
def aft1 (L : List V) (ts : List (List Nat)) (x : Nat) : Bool := match ts[x - 1]? with
  | some t => inV (.str (S t)) L
  | none => false
def W1 : List V := [.str "set", .str "keep", .str "read", .str "look", .str "call", .str "if"]
def W2 : List V := [.str "of", .str "make"]
/-- z is a sign that is wrong behind t -/
def Bad (t z : List Nat) : Prop := IsTok z ∧ z.length ≤ 9 ∧ ((inV (.str (S t)) W1 = true ∧ wordL z = false) ∨ (inV (.str (S t)) W2 = true ∧ classL z = false))
section
variable {P : Program} {w : World} {K : PySem.W.Frag} {mg : Str → Option Value} {base : Heap} {Z : Addrs}
def spWrong : Sp := fun vs H Q _ => ∃ (b p : Addr) (ts : List (List Nat)), vs = [.ref b, .ref p] ∧ BagAt H b ∧ p ≠ b ∧ H p = some (.lst (txV ts)) ∧ ts.length ≤ 2000 ∧ (∀ H', Upto b H H' → BagAt H' b → Q .non H') ∧
  ∀ (q g : Addr) (x : Nat) (t z : List Nat) H', 1 ≤ x → x < ts.length → ts[x - 1]? = some t → Bad t z → H' q = some (.tup [.ref g, .int (x : Nat)]) → H' g = some (.lst (txV (ts.take x ++ [z] ++ ts.drop (x + 1)))) → H g = none → Upto b H H' → BagAt H' b → Q (.ref q) H'
theorem c__law_wrong_word (T : Txt K mg Z) : Cal P w K mg base 4 "_law_wrong_word" spWrong [] := by
  have c__law_one : Cal P w K mg base 2 "_law_one" (spOne K) [] := c__law_one T
  refine cal_of T.d__law_wrong_word sc__law_wrong_word (fun vs H Q E h => ?_) (fun f cdv A outer s H vs Q E hr h => ?_)
  · obtain ⟨b, p, ts, rfl, _⟩ := h
    rfl
  · obtain ⟨b, p, ts, rfl, B, hpb, hp, hlen, k1, k2⟩ := h
    refine ⟨_, (pss_cons (ps_setLc (i := 2) (own := [("at", 4)]) (g := gName 4)  rfl sc__law_wrong_word.nd rfl rfl (sw_true rfl rfl rfl (by decide +kernel)) (pi_range2 rfl T.b_range (pa_cons pe_int (pa_cons (pe_callB call_len_seq (by rfl) T.b_len (by decide +kernel) (pa_cons (pv 1) pa_nil)) pa_nil))) (blkOk_by (N := ["bag", "tokens", "some", "more", "at", "wrong"]) (sc := defScope s__law_wrong_word) (by decide +kernel)) (fun _ _ _ _ _ => (pg_name (i := 4) sc__law_wrong_word.nd rfl (by first | exact Or.inl rfl | exact Or.inr rfl))) (fun _ _ _ _ _ => pts_one (pt_cmpR (kx_in (K := K) rfl) (pe_ix (kx_ixL (K := K) rfl) (pv 1) (pe_op op_sub (pv 4) pe_int) (fun _ _ => rfl)) (pe_lst (pa_cons pe_str (pa_cons pe_str (pa_cons pe_str (pa_cons pe_str (pa_cons pe_str (pa_cons pe_str pa_nil))))))) (by with_unfolding_all rfl))) (fun _ _ _ _ _ => (pv 4)))
      (pss_cons (ps_setLc (i := 3) (own := [("at", 4)]) (g := gName 4)  rfl sc__law_wrong_word.nd rfl rfl (sw_true rfl rfl rfl (by decide +kernel)) (pi_range2 rfl T.b_range (pa_cons pe_int (pa_cons (pe_callB call_len_seq (by rfl) T.b_len (by decide +kernel) (pa_cons (pv 1) pa_nil)) pa_nil))) (blkOk_by (N := ["bag", "tokens", "some", "more", "at", "wrong"]) (sc := defScope s__law_wrong_word) (by decide +kernel)) (fun _ _ _ _ _ => (pg_name (i := 4) sc__law_wrong_word.nd rfl (by first | exact Or.inl rfl | exact Or.inr rfl))) (fun _ _ _ _ _ => pts_one (pt_cmpR (kx_in (K := K) rfl) (pe_ix (kx_ixL (K := K) rfl) (pv 1) (pe_op op_sub (pv 4) pe_int) (fun _ _ => rfl)) (pe_lst (pa_cons pe_str (pa_cons pe_str pa_nil))) (by with_unfolding_all rfl))) (fun _ _ _ _ _ => (pv 4)))
      (pss_cons (ps_if (pt_cmpR (op_eqD hr.units) (pe_op op_cat (pv 2) (pv 3)) (pe_lst pa_nil) (nomark _)) (pss_one (ps_ret pe_non)) pss_nil)
      (pss_cons (ps_set (i := 4) sc__law_wrong_word.nd rfl (by first | exact Or.inl rfl | exact Or.inr rfl) (pe_c c__law_one hr (by omega) rfl (pa_cons (pv 0) (pa_cons (pe_op op_cat (pv 2) (pv 3)) pa_nil))))
      (C8.pss_cut (ps_set (i := 5) sc__law_wrong_word.nd rfl (by first | exact Or.inl rfl | exact Or.inr rfl) (pe_op op_cat (pe_lst (pa_cons pe_str (pa_cons pe_str (pa_cons pe_str (pa_cons pe_str pa_nil))))) (pe_ifExp (pt_cmpR op_in_seq (pv 4) (pv 2) (by with_unfolding_all rfl)) (pe_lst (pa_cons pe_str (pa_cons pe_str (pa_cons pe_str pa_nil)))) (pe_lst (pa_cons pe_str (pa_cons pe_str (pa_cons pe_str pa_nil)))))))
      (pss_one (ps_ret (pe_tup (pa_cons (pe_op op_cat (pe_op op_cat (pe_slice sl_list (pv 1) po_none (po_some (pv 4))) (pe_lst (pa_cons (pe_c c__law_one hr (by omega) rfl (pa_cons (pv 0) (pa_cons (pv 5) pa_nil))) pa_nil))) (pe_slice sl_list (pv 1) (po_some (pe_op op_add (pv 4) pe_int)) po_none)) (pa_cons (pv 4) pa_nil)))))))))), ?_⟩
    have hsz : (-2 ^ 62 : Int) ≤ (txV ts).length ∧ ((txV ts).length : Int) < 2 ^ 62 := by rw [txV_len]; constructor <;> omega
    refine ⟨_, rfl, p, _, rfl, .inl (SqL.of hp), _, _, rfl, ⟨by decide, by decide, hsz.1, hsz.2⟩, ?_⟩
    intro D1 n1
    have s1 := Same.new (o := .lst []) n1
    refine lc_it walk_range (fun i H2 => H2 D1 = some (.lst (nV (fl (aft1 W1 ts) i))) ∧ Same H H2) ⟨upd_same, s1⟩ (fun _ _ _ _ => trivial) ?_ ?_
    · rintro i x H2 H3 hi ⟨hD, s2⟩ ⟨rfl, rfl⟩
      rw [txV_len] at hi
      have hi2 : i < ts.length := by omega
      have ea : atI (txV ts) (1 + (i : Int) - 1) = some (.str (S ts[i])) := by
        rw [show 1 + (i : Int) - 1 = ((i : Nat) : Int) by omega]
        exact atI_nat (by simp [txV, hi2])
      refine ⟨rfl, _, rfl, _, rfl, _, _, rfl, rfl, p, _, _, _, rfl, rfl, SqL.of (s2 _ _ hp), ea, by decide, fun p3 n3 => ⟨p3, _, rfl, .inl (SqL.of upd_same), rfl, rfl, _, rfl, ?_⟩⟩
      have s3 := s2.trans (Same.new (o := .lst W1) n3)
      have hD3 := Same.new (o := .lst W1) n3 _ _ hD
      have ew : aft1 W1 ts (i + 1) = inV (.str (S ts[i])) W1 := by
        unfold aft1
        rw [Nat.add_sub_cancel, List.getElem?_eq_getElem hi2]
      show if inV (.str (S ts[i])) W1 = true then _ else _
      rw [← ew, fl_succ]
      refine ite2 (fun c => ?_) (fun c => ?_)
      · rw [if_pos c]
        refine ⟨_, rfl, _, hD3, Nat.lt_of_le_of_lt (by rw [nV, List.length_map]; exact fl_len _ _) (Nat.lt_of_le_of_lt (Nat.le_trans (Nat.le_of_lt hi2) hlen) (by decide)), ?_, fun a o e => by rw [upd_ne (ne_of_none e n1)]; exact s3 a o e⟩
        rw [upd_same, nV_snoc]
      · rw [if_neg c]
        exact ⟨hD3, s3⟩
    · rintro H2 ⟨hD, s2⟩
      rw [txV_len] at hD
      refine ⟨_, rfl, p, _, rfl, .inl (SqL.of (s2 _ _ hp)), _, _, rfl, ⟨by decide, by decide, hsz.1, hsz.2⟩, ?_⟩
      intro D2 n2
      have n2' : H D2 = none := s2.free n2
      have d12 : D1 ≠ D2 := ne_of_none hD n2
      have s4 := s2.trans (Same.new (o := .lst []) n2)
      refine lc_it walk_range (fun i H2 => H2 D2 = some (.lst (nV (fl (aft1 W2 ts) i))) ∧ Same H H2 ∧ H2 D1 = some (.lst (nV (fl (aft1 W1 ts) (ts.length - 1))))) ⟨upd_same, s4, ?_⟩ (fun _ _ _ _ => trivial) ?_ ?_
      · rw [upd_ne d12]
        rw [show ((ts.length : Int) - 1).toNat = ts.length - 1 by omega] at hD
        exact hD
      · rintro i x H4 H3 hi ⟨hD2, s5, hD1⟩ ⟨rfl, rfl⟩
        rw [txV_len] at hi
        have hi2 : i < ts.length := by omega
        have ea : atI (txV ts) (1 + (i : Int) - 1) = some (.str (S ts[i])) := by
          rw [show 1 + (i : Int) - 1 = ((i : Nat) : Int) by omega]
          exact atI_nat (by simp [txV, hi2])
        refine ⟨rfl, _, rfl, _, rfl, _, _, rfl, rfl, p, _, _, _, rfl, rfl, SqL.of (s5 _ _ hp), ea, by decide, fun p3 n3 => ⟨p3, _, rfl, .inl (SqL.of upd_same), rfl, rfl, _, rfl, ?_⟩⟩
        have t3 := Same.new (o := .lst W2) n3
        have s3 := s5.trans t3
        have hD3 := t3 _ _ hD2
        have ew : aft1 W2 ts (i + 1) = inV (.str (S ts[i])) W2 := by
          unfold aft1
          rw [Nat.add_sub_cancel, List.getElem?_eq_getElem hi2]
        show if inV (.str (S ts[i])) W2 = true then _ else _
        rw [← ew, fl_succ]
        refine ite2 (fun c => ?_) (fun c => ?_)
        · rw [if_pos c]
          refine ⟨_, rfl, _, hD3, Nat.lt_of_le_of_lt (by rw [nV, List.length_map]; exact fl_len _ _) (Nat.lt_of_le_of_lt (Nat.le_trans (Nat.le_of_lt hi2) hlen) (by decide)), ?_, fun a o e => by rw [upd_ne (ne_of_none e n2')]; exact s3 a o e, by rw [upd_ne d12]; exact t3 _ _ hD1⟩
          rw [upd_same, nV_snoc]
        · rw [if_neg c]
          exact ⟨hD3, s3, t3 _ _ hD1⟩
      rintro H4 ⟨hD2, s5, hD1⟩
      rw [txV_len, show ((ts.length : Int) - 1).toNat = ts.length - 1 by omega] at hD2
      generalize ea : fl (aft1 W1 ts) (ts.length - 1) = as at hD1
      generalize eb : fl (aft1 W2 ts) (ts.length - 1) = bs at hD2
      have la : as.length ≤ 2000 := by have := fl_len (aft1 W1 ts) (ts.length - 1); rw [ea] at this; omega
      have lb : bs.length ≤ 2000 := by have := fl_len (aft1 W2 ts) (ts.length - 1); rw [eb] at this; omega
      have lab : (nV as).length + (nV bs).length ≤ sizeLine := Nat.le_trans (by simp [nV]; omega : _ ≤ 4000) (by decide)
      -- some + more == []
      refine ⟨_, rfl, _, rfl, D1, D2, _, _, rfl, rfl, hD1, hD2, lab, fun r nr => ⟨sz (by simp), fun r2 nr2 => ?_⟩⟩
      have t6 := Same.new (o := .lst (nV as ++ nV bs)) nr
      have t7 := Same.new (o := .lst []) nr2
      have s7 := s5.trans (t6.trans t7)
      rw [nV_app] at t6 t7 s7 ⊢
      refine ⟨_, .list [], .lst (SqL.of (t7 _ _ upd_same)) (dpA_nV _), .lst (SqL.of upd_same) .nil, shaped_nV _, rfl, _, rfl, ?_⟩
      have eqv : PyData.eqv (.list ((as ++ bs).map fun n => .int (n : Nat))) (.list []) = decide (as ++ bs = []) := by
        cases as ++ bs <;> rfl
      rw [eqv]
      have B7 := B.same s7
      refine ite2 (fun c => ?_) (fun c => ?_)
      · exact k1 _ (Upto.of s7) B7
      have c : as ++ bs ≠ [] := fun e => c (decide_eq_true e)
      have hD1' := t7 _ _ (t6 _ _ hD1)
      have hD2' := t7 _ _ (t6 _ _ hD2)
      refine ⟨_, rfl, _, rfl, _, rfl, D1, D2, _, _, rfl, rfl, hD1', hD2', lab, fun g ng => ?_⟩
      rw [nV_app]
      have t8 := Same.new (o := .lst (nV (as ++ bs))) ng
      have B8 := B7.same t8
      refine ⟨b, g, _, rfl, B8, bagNe B7 ng, upd_same, by rw [nV, List.length_map]; exact List.length_pos_iff.mpr c, by simp [nV]; omega, fun v H9 hv u9 B9 => ?_⟩
      obtain ⟨x, hx, rfl⟩ := List.mem_map.mp hv
      have U9 : Upto b H H9 := (Upto.of (s7.trans t8)).trans u9
      have hp9 : H9 p = some (.lst (txV ts)) := U9 _ _ hpb hp
      have n1b : D1 ≠ b := fun e => by rw [e] at n1; obtain ⟨_, _, _, h⟩ := B; rw [h] at n1; cases n1
      have n2b : D2 ≠ b := fun e => by rw [e] at n2'; obtain ⟨_, _, _, h⟩ := B; rw [h] at n2'; cases n2'
      have hD9 : H9 D1 = some (.lst (nV as)) := u9 _ _ n1b (t8 _ _ hD1')
      have hin : ∀ L ns, fl (aft1 L ts) (ts.length - 1) = ns → x ∈ ns → 1 ≤ x ∧ x < ts.length ∧ ∃ t, ts[x - 1]? = some t ∧ inV (.str (S t)) L = true := fun L ns e hm => by
        rw [← e] at hm
        obtain ⟨h1, h2, h3⟩ := fl_mem hm
        refine ⟨h1, by omega, ?_⟩
        unfold aft1 at h3
        cases et : ts[x - 1]? with
        | none => rw [et] at h3; cases h3
        | some t => rw [et] at h3; exact ⟨t, rfl, h3⟩
      refine ⟨fun σ' H' => ∃ (g : Addr) (zs : List (List Nat)) (t : List Nat), σ' = [some (.ref b), some (.ref p), some (.ref D1), some (.ref D2), some (.int (x : Nat)), some (.ref g)] ∧ H' g = some (.lst (txV zs)) ∧ zs.length = 7 ∧ 1 ≤ x ∧ x < ts.length ∧ ts[x - 1]? = some t ∧ (∀ z ∈ zs, Bad t z) ∧ Upto b H H' ∧ BagAt H' b ∧ g ≠ b, ?_, ?_⟩
      · refine ⟨by decide, fun g1 m1 => ?_⟩
        have t1 := Same.new (o := .lst [.str "value", .str ";", .str "{", .str "aB"]) m1
        refine ⟨_, rfl, _, rfl, D1, nV as, rfl, .inl (SqL.of (t1 _ _ hD9)), rfl, flat_nV _, _, rfl, ?_⟩
        refine ite2 (fun c => ?_) (fun c => ?_)
        · have c : inV (.int (x : Nat)) (nV as) = true := c
          obtain ⟨x1, x2, t, et, hw⟩ := hin _ _ ea (inV_nV c)
          refine ⟨by decide, fun g2 m2 => ?_⟩
          have t2 := Same.new (o := .lst [.str "super", .str "aqzmaqzma", .str "Aaaa"]) m2
          refine ⟨g1, g2, _, _, rfl, rfl, t2 _ _ upd_same, upd_same, by decide, fun g mg => ?_⟩
          have t3 := t1.trans (t2.trans (Same.new (o := .lst (txV bad1)) mg))
          rw [bad1_V] at t3
          exact ⟨g, bad1, t, rfl, by rw [bad1_V]; exact upd_same, rfl, x1, x2, et, fun z hz => ⟨(tokB_ok (bad1_ok z hz).1).1, (tokB_ok (bad1_ok z hz).1).2, .inl ⟨hw, (bad1_ok z hz).2⟩⟩, U9.trans (Upto.of t3), B9.same t3, bagNe ((B9.same t1).same t2) mg⟩
        · have c : ¬ inV (.int (x : Nat)) (nV as) = true := c
          have hx2 : x ∈ bs := by
            rcases List.mem_append.mp hx with h | h
            · exact absurd (nV_inV h) c
            · exact h
          obtain ⟨x1, x2, t, et, hw⟩ := hin _ _ eb hx2
          refine ⟨by decide, fun g2 m2 => ?_⟩
          have t2 := Same.new (o := .lst [.str "a", .str "aqzm", .str "ABc"]) m2
          refine ⟨g1, g2, _, _, rfl, rfl, t2 _ _ upd_same, upd_same, by decide, fun g mg => ?_⟩
          have t3 := t1.trans (t2.trans (Same.new (o := .lst (txV bad2)) mg))
          rw [bad2_V] at t3
          exact ⟨g, bad2, t, rfl, by rw [bad2_V]; exact upd_same, rfl, x1, x2, et, fun z hz => ⟨(tokB_ok (bad2_ok z hz).1).1, (tokB_ok (bad2_ok z hz).1).2, .inr ⟨hw, (bad2_ok z hz).2⟩⟩, U9.trans (Upto.of t3), B9.same t3, bagNe ((B9.same t1).same t2) mg⟩
      · rintro σ' H10 ⟨g, zs, t, rfl, hg, hz7, x1, x2, et, hbad, u10, B10, gb⟩
        have hp10 : H10 p = some (.lst (txV ts)) := u10 _ _ hpb hp
        refine ⟨_, rfl, _, rfl, _, rfl, p, _, rfl, SqL.of hp10, fun p1 m1 => ?_⟩
        rw [cut_to ts x (by omega)]
        have t1 := Same.new (o := .lst (txV (ts.take x))) m1
        have B11 := B10.same t1
        refine ⟨_, rfl, _, rfl, b, g, _, rfl, B11, gb, t1 _ _ hg, by rw [txV_len]; omega, by rw [txV_len]; omega, fun v H12 hv u12 B12 => ?_⟩
        obtain ⟨z, hz, rfl⟩ : ∃ z, z ∈ zs ∧ V.str (S z) = v := by simpa [txV] using hv
        have p1b : p1 ≠ b := bagNe B10 m1
        have h1 : H12 p1 = some (.lst (txV (ts.take x))) := u12 _ _ p1b upd_same
        refine ⟨(by show 1 ≤ sizeLine; decide), fun p2 m2 => ?_⟩
        have t2 := Same.new (o := .lst [V.str (S z)]) m2
        have hl1 : (txV (ts.take x)).length ≤ 2000 := by rw [txV_len, List.length_take]; omega
        refine ⟨p1, p2, _, _, rfl, rfl, t2 _ _ h1, upd_same, Nat.le_trans (by simp; omega : _ ≤ 2001) (by decide), fun p3 m3 => ?_⟩
        have U12 : Upto b H H12 := (u10.trans (Upto.of t1)).trans u12
        have t3 := Same.new (o := .lst (txV (ts.take x) ++ [V.str (S z)])) m3
        have t23 := t2.trans t3
        refine ⟨_, rfl, _, rfl, _, _, rfl, rfl, _, rfl, p, _, rfl, SqL.of (t23 _ _ (U12 _ _ hpb hp)), fun p4 m4 => ?_⟩
        rw [show (x : Int) + 1 = ((x + 1 : Nat) : Int) from rfl, cut_from]
        have t4 := Same.new (o := .lst (txV (ts.drop (x + 1)))) m4
        have hl2 : (txV (ts.drop (x + 1))).length ≤ 2000 := by rw [txV_len, List.length_drop]; omega
        refine ⟨p3, p4, _, _, rfl, rfl, t4 _ _ upd_same, upd_same, Nat.le_trans (by simp; omega : _ ≤ 4001) (by decide), fun p5 m5 => ?_⟩
        have et5 : txV (ts.take x) ++ [V.str (S z)] ++ txV (ts.drop (x + 1)) = txV (ts.take x ++ [z] ++ ts.drop (x + 1)) := by simp [txV]
        rw [et5]
        have t5 := Same.new (o := .lst (txV (ts.take x ++ [z] ++ ts.drop (x + 1)))) m5
        refine ⟨_, rfl, (by show 2 ≤ sizeLine; decide), fun q mq => ?_⟩
        have t6 := Same.new (o := .tup [V.ref p5, V.int (x : Nat)]) mq
        have t46 := t4.trans (t5.trans t6)
        have all := t23.trans t46
        have n5 : H p5 = none := by
          have p5b : p5 ≠ b := bagNe ((B12.same t23).same t4) m5
          exact none_upto (U12.trans (Upto.of (t23.trans t4))) m5 p5b
        exact k2 q p5 x t z _ x1 x2 et (hbad z hz) upd_same (t6 _ _ upd_same) n5 (U12.trans (Upto.of all)) (B12.same all)
end

/-! ### 23. blocks, forward and backward -/
theorem dp1_cases (t : List Nat) : (t = kw "{" ∧ dp1 t = 1) ∨ (t = kw "}" ∧ dp1 t = -1) ∨ (t ≠ kw "{" ∧ t ≠ kw "}" ∧ dp1 t = 0) := by
  by_cases h1 : t = kw "{"
  · exact .inl ⟨h1, by rw [h1, dp1_o]⟩
  by_cases h2 : t = kw "}"
  · exact .inr (.inl ⟨h2, by rw [h2, dp1_c]⟩)
  · exact .inr (.inr ⟨h1, h2, dp1_n h1 h2⟩)
theorem dpt_one (t : List Nat) : dpt [t] = dp1 t := by simp [dpt]
theorem seek0 : ∀ (l : List (List Nat)) (d : Int), 1 ≤ d → d + dpt l ≤ 0 → ∃ a b, l = a ++ b ∧ d + dpt a = 0 ∧ ∀ c e, a = c ++ e → e ≠ [] → 1 ≤ d + dpt c
  | [], d, h1, h2 => by simp [dpt] at h2; omega
  | t :: l, d, h1, h2 => by
    simp only [dpt] at h2
    have h3 := dp1_cases t
    by_cases h0 : d + dp1 t = 0
    · refine ⟨[t], l, rfl, by rw [dpt_one]; exact h0, fun c e he hne => ?_⟩
      cases c with
      | nil => simp [dpt]; omega
      | cons x c =>
        have := congrArg List.length he
        simp only [List.length_cons, List.length_append, List.length_nil] at this
        exact absurd (List.length_eq_zero_iff.mp (by omega)) hne
    · obtain ⟨a, b, rfl, e1, e2⟩ := seek0 l (d + dp1 t) (by rcases h3 with ⟨_, h⟩ | ⟨_, h⟩ | ⟨_, _, h⟩ <;> omega) (by omega)
      refine ⟨t :: a, b, rfl, by simp only [dpt]; omega, fun c e he hne => ?_⟩
      cases c with
      | nil => simp [dpt]; omega
      | cons x c =>
        injection he with q1 q2
        subst q1
        have := e2 c e q2 hne
        simp only [dpt]
        omega
theorem seekB : ∀ (n : Nat) (l : List (List Nat)) (d : Int), l.length = n → d ≤ -1 → 0 ≤ d + dpt l → ∃ a b, l = a ++ b ∧ d + dpt b = 0 ∧ ∀ c e, b = c ++ e → c ≠ [] → d + dpt e ≤ -1 := by
  intro n
  induction n with
  | zero =>
    intro l d hl h1 h2
    rw [List.length_eq_zero_iff.mp hl] at h2
    simp [dpt] at h2
    omega
  | succ n ih =>
    intro l d hl h1 h2
    rcases List.eq_nil_or_concat l with rfl | ⟨l', t, rfl⟩
    · simp at hl
    rw [List.concat_eq_append] at *
    rw [dpt_app, dpt_one] at h2
    have h3 := dp1_cases t
    have snoc : ∀ {b c e : List (List Nat)}, b ++ [t] = c ++ e → e = [] ∨ ∃ e', e = e' ++ [t] ∧ b = c ++ e' := by
      intro b c e he
      rcases List.eq_nil_or_concat e with rfl | ⟨e', x, rfl⟩
      · exact .inl rfl
      · rw [List.concat_eq_append, ← List.append_assoc] at he
        obtain ⟨q1, q2⟩ := List.append_inj' he rfl
        cases q2
        exact .inr ⟨e', by rw [List.concat_eq_append], q1⟩
    by_cases h0 : d + dp1 t = 0
    · refine ⟨l', [t], rfl, by rw [dpt_one]; exact h0, fun c e he hc => ?_⟩
      rcases snoc (b := []) he with rfl | ⟨e', rfl, q⟩
      · simp [dpt]; omega
      · exact absurd (List.append_eq_nil_iff.mp q.symm).1 hc
    · obtain ⟨a, b, rfl, e1, e2⟩ := ih l' (d + dp1 t) (by simp at hl; omega) (by rcases h3 with ⟨_, h⟩ | ⟨_, h⟩ | ⟨_, _, h⟩ <;> omega) (by omega)
      refine ⟨a, b ++ [t], by simp, by rw [dpt_app, dpt_one]; omega, fun c e he hc => ?_⟩
      rcases snoc he with rfl | ⟨e', rfl, q⟩
      · simp [dpt]; omega
      · have := e2 c e' q hc
        rw [dpt_app, dpt_one]
        omega
/-- a block: brackets that close only at its end -/
structure Blk (l : List (List Nat)) : Prop where
  ne : l ≠ []
  z : dpt l = 0
  pre : ∀ a b, l = a ++ b → a ≠ [] → b ≠ [] → 1 ≤ dpt a
theorem blk_fwd {M : Nat} {f : Fr} {k : List Fr} {rest : List (List Nat)} {z : Md × List Fr} (h : run M (.op f, k) rest = some z) (hz : Fin' z) : ∃ blk s, rest = blk ++ s ∧ Blk blk ∧ run M (aft f, k) s = some z := by
  cases rest with
  | nil =>
    cases h
    obtain ⟨_, o, e⟩ := hz
    cases e
  | cons t l =>
    obtain ⟨q', h1, h2⟩ := run_cons h
    obtain ⟨rfl, f', ef, rfl, _⟩ : t = kw "{" ∧ ∃ f', Md.op f = .op f' ∧ q' = (.bd false, f' :: k) ∧ k.length < M := by
      simp only [dl] at h1
      split at h1
      · rename_i c
        rw [Bool.and_eq_true, decide_eq_true_eq] at c
        cases h1
        exact ⟨isW_iff.mp c.1, f, rfl, rfl, c.2⟩
      · cases h1
    cases ef
    have d := run_dep _ h
    rw [hz.1] at d
    simp only [dpt, dp1_o, List.length_nil] at d
    obtain ⟨a, b, rfl, e1, e2⟩ := seek0 l 1 (by omega) (by have : (0 : Int) ≤ (k.length : Int) := Int.natCast_nonneg _; simp at d; omega)
    have B : Blk (kw "{" :: a) := by
      refine ⟨by simp, by simp only [dpt, dp1_o]; exact e1, fun c e he hc hne => ?_⟩
      cases c with
      | nil => exact absurd rfl hc
      | cons x c =>
        injection he with q1 q2
        subst q1
        have := e2 c e q2 hne
        simp only [dpt, dp1_o]
        exact this
    refine ⟨kw "{" :: a, b, rfl, B, ?_⟩
    have h' : run M (.op f, k) ((kw "{" :: a) ++ b) = some z := h
    obtain ⟨q2, r1, r2⟩ := run_cut h'
    have := run_block r1 B.z B.ne B.pre
    subst this
    exact r2
theorem dl_close {M : Nat} {md : Md} {k : List Fr} {t : List Nat} {q : Md × List Fr} (h : dl M md k t = some q) (hq : q.1 = .ael ∨ q.1 = .aca ∨ q.1 = .aor ∨ q.1 = .bd true) : t = kw "}" := by
  have no : ∀ w, ¬ (dW w = .ael ∨ dW w = .aca ∨ dW w = .aor ∨ dW w = .bd true) := by
    intro w
    unfold dW
    repeat' split
    all_goals simp
  have w1 : ∀ {c : Bool} {q' : Md × List Fr}, (if c = true then some q' else none) = some q → q = q' := by
    intro c q' h
    cases c with
    | true => exact (Option.some.inj h).symm
    | false => cases h
  cases md with
  | bd o =>
    simp only [dl] at h
    split at h
    · cases h; exact absurd hq (no t)
    · split at h
      · cases h; simp at hq
      · cases e : isW t "}" with
        | true => exact isW_iff.mp e
        | false => rw [e] at h; cases h
  | _ =>
    simp only [dl] at h
    have := w1 h
    subst this
    simp at hq
/-- the word before a block's bracket tells its kind -/
def Opens (t : List Nat) : Fr → Prop
  | .fe => t = kw "either"
  | .fo => t = kw "or"
  | _ => True
theorem dl_op {M : Nat} {md : Md} {k : List Fr} {t : List Nat} {q : Md × List Fr} {f : Fr} (h : dl M md k t = some q) (hq : q.1 = .op f) : Opens t f := by
  have w1 : ∀ {c : Bool} {q' : Md × List Fr}, (if c = true then some q' else none) = some q → c = true ∧ q = q' := by
    intro c q' h
    cases c with
    | true => exact ⟨rfl, (Option.some.inj h).symm⟩
    | false => cases h
  cases md with
  | bd o =>
    simp only [dl] at h
    split at h
    · cases h
      have hq : dW t = .op f := hq
      unfold dW at hq
      split at hq
      · cases hq; trivial
      split at hq
      · cases hq
      split at hq
      · cases hq; trivial
      split at hq
      · rename_i e; cases hq; exact isW_iff.mp e
      split at hq
      · cases hq
      split at hq
      · cases hq
      · cases hq
    · split at h
      · rename_i e
        cases h
        cases hq
        rw [Bool.and_eq_true] at e
        exact isW_iff.mp e.2
      · split at h
        · cases k with
          | nil => cases h
          | cons f' k => cases h; cases f' <;> cases hq
        · cases h
  | aor =>
    obtain ⟨e, rfl⟩ := w1 h
    cases hq
    exact isW_iff.mp e
  | _ =>
    obtain ⟨e, rfl⟩ := w1 h
    cases hq <;> trivial
theorem blk_bwd {M : Nat} {p : List (List Nat)} {q : Md × List Fr} (h : run M st0 p = some q) (hq : q.1 = .ael ∨ q.1 = .aca ∨ q.1 = .aor ∨ q.1 = .bd true) : ∃ p1 t blk f k, p = (p1 ++ [t]) ++ blk ∧ Blk blk ∧ q = (aft f, k) ∧ Opens t f := by
  rcases List.eq_nil_or_concat p with rfl | ⟨p', t1, rfl⟩
  · cases h
    simp [st0] at hq
  rw [List.concat_eq_append] at *
  obtain ⟨q', h1, h2⟩ := run_cut h
  obtain ⟨q2, h3, h4⟩ := run_cons h2
  cases h4
  have et := dl_close h3 hq
  subst et
  have d := run_dep _ h
  rw [dpt_app, dpt_one, dp1_c] at d
  obtain ⟨a, b, rfl, e1, e2⟩ := seekB _ p' (-1) rfl (by omega) (by have : (0 : Int) ≤ (q.2.length : Int) := Int.natCast_nonneg _; simp [st0] at d; omega)
  cases b with
  | nil => simp [dpt] at e1
  | cons x b =>
    have ex : x = kw "{" := by
      have h5 := e2 [x] b rfl (by simp)
      simp only [dpt] at e1
      rcases dp1_cases x with ⟨e, _⟩ | ⟨_, e⟩ | ⟨_, _, e⟩
      · exact e
      · omega
      · omega
    subst ex
    have B : Blk (kw "{" :: b ++ [kw "}"]) := by
      refine ⟨by simp, by rw [dpt_app, dpt_one, dp1_c]; omega, fun c e he hc hne => ?_⟩
      rcases List.eq_nil_or_concat e with rfl | ⟨e', y, rfl⟩
      · exact absurd rfl hne
      · rw [List.concat_eq_append, ← List.append_assoc] at he
        obtain ⟨q1, q2⟩ := List.append_inj' he rfl
        have h6 := e2 c e' q1 hc
        have h7 : dpt (kw "{" :: b) = dpt c + dpt e' := by rw [q1, dpt_app]
        omega
    obtain ⟨qa, g1, g2⟩ := run_cut h1
    obtain ⟨qb, g3, g4⟩ := run_cons g2
    obtain ⟨f, ef⟩ : ∃ f, qa.1 = .op f := by
      rcases dl_stack g3 with ⟨_, f, e, _⟩ | ⟨e, _⟩ | ⟨e, _⟩
      · exact ⟨f, e⟩
      · exact absurd e (by decide +kernel)
      · exact absurd rfl e
    rcases List.eq_nil_or_concat a with rfl | ⟨p1, t, rfl⟩
    · cases g1
      cases ef
    rw [List.concat_eq_append] at *
    obtain ⟨qc, g5, g6⟩ := run_cut g1
    obtain ⟨qd, g7, g8⟩ := run_cons g6
    cases g8
    obtain ⟨md, kk⟩ := qa
    cases ef
    have hb : run M (.op f, kk) (kw "{" :: b ++ [kw "}"]) = some q := by
      rw [run_app, g2]
      exact h2
    have := run_block hb B.z B.ne B.pre
    exact ⟨p1, t, _, f, kk, by simp, B, this, dl_op g7 rfl⟩

/-! ### 24. the law's spoiling: a part left out -/
def Fails (z : List (List Nat)) (x : Nat) : Prop := x ≤ z.length ∧ ∀ (us : List Tok) (n : Nat), txs us = z → pFin n (bodyN 6 us) = .error (posOf n (us.drop x))
theorem Fails.of {q : Md × List Fr} {p s : List (List Nat)} (hr : run 6 st0 p = some q) (hx : (s = [] ∧ ¬ Fin' q) ∨ ∃ x s', s = x :: s' ∧ dl 6 q.1 q.2 x = none) : Fails (p ++ s) p.length :=
  ⟨by simp, fun _ _ hu => fails_behind hr hx hu⟩
def Valid (ts : List (List Nat)) : Prop := ∃ z, run 6 st0 ts = some z ∧ Fin' z
theorem valid_body {b : List Stp} (hok : okK 7 b) : Valid (sgB b) := by
  obtain ⟨o, h⟩ := run_body (n := 6) hok
  exact ⟨_, h, rfl, o, rfl⟩
theorem way_fwd {p blk s : List (List Nat)} {tok : List Nat} : Way (p ++ tok :: (blk ++ s)) ((p.length : Int) + 1) 1 blk := fun m t e => by
  refine ⟨p.length + 1 + m, by omega, ?_⟩
  rw [List.getElem?_append_right (by omega), show p.length + 1 + m - p.length = m + 1 by omega, List.getElem?_cons_succ, List.getElem?_append_left (List.getElem?_eq_some_iff.mp e).1]
  exact e
theorem way_bwd {p blk s : List (List Nat)} : Way ((p ++ blk) ++ s) (((p ++ blk).length : Int) - 1) (-1) blk.reverse := fun m t e => by
  have hm : m < blk.length := by
    have := (List.getElem?_eq_some_iff.mp e).1
    simpa using this
  refine ⟨p.length + (blk.length - 1 - m), by simp; omega, ?_⟩
  rw [List.getElem?_append_left (by simp; omega), List.getElem?_append_right (by omega), show p.length + (blk.length - 1 - m) - p.length = blk.length - 1 - m by omega]
  rw [List.getElem?_reverse hm] at e
  exact e
theorem dpt_rev : ∀ l : List (List Nat), dpt l.reverse = dpt l
  | [] => rfl
  | t :: l => by rw [List.reverse_cons, dpt_app, dpt_one, dpt_rev l]; simp only [dpt]; omega
theorem Blk.fwd {l : List (List Nat)} (B : Blk l) : ∀ a b, l = a ++ b → a ≠ [] → b ≠ [] → dpt a ≠ 0 := fun a b e ha hb => by
  have := B.pre a b e ha hb
  omega
theorem Blk.bwd {l : List (List Nat)} (B : Blk l) : ∀ a b, l.reverse = a ++ b → a ≠ [] → b ≠ [] → dpt a ≠ 0 := fun a b e ha hb => by
  have e : l = b.reverse ++ a.reverse := by rw [← List.reverse_append, ← e, List.reverse_reverse]
  have h := B.pre _ _ e (by simpa using hb) (by simpa using ha)
  have z := B.z
  rw [e, dpt_app, dpt_rev, dpt_rev] at z
  rw [dpt_rev] at h
  omega
/-- where else, catch or or stands: the blocks around it -/
theorem around {p rest : List (List Nat)} {tok : List Nat} (hv : Valid (p ++ tok :: rest)) (ht : tok = kw "else" ∨ tok = kw "catch" ∨ tok = kw "or") :
    ∃ p1 t b1 b2 s, p = (p1 ++ [t]) ++ b1 ∧ rest = b2 ++ s ∧ Blk b1 ∧ Blk b2 ∧ ((tok ≠ kw "or" ∨ (t = kw "either" ∧ s.head? ≠ some (kw "or"))) → Fails (p ++ s) p.length) := by
  obtain ⟨z, hr, hz⟩ := hv
  obtain ⟨q, h1, h2⟩ := run_cut hr
  obtain ⟨q', h3, h4⟩ := run_cons h2
  obtain ⟨md, k⟩ := q
  have next : ∀ {o : Bool} {s : List (List Nat)} {w : Md × List Fr}, run 6 (.bd o, k) s = some w → ∀ x s', s = x :: s' → x ≠ kw "else" ∧ x ≠ kw "catch" := fun h x s' e => by
    subst e
    obtain ⟨_, g, _⟩ := run_cons h
    refine ⟨fun e => ?_, fun e => ?_⟩
    · subst e
      have := (dl_else g).1
      cases this
    · subst e
      have := (dl_catch g).1
      cases this
  rcases ht with rfl | rfl | rfl
  · obtain ⟨rfl, rfl⟩ := dl_else h3
    obtain ⟨p1, t, b1, f, k', e1, B1, _, _⟩ := blk_bwd h1 (.inl rfl)
    obtain ⟨b2, s, e2, B2, r2⟩ := blk_fwd h4 hz
    refine ⟨p1, t, b1, b2, s, e1, e2, B1, B2, fun _ => Fails.of h1 ?_⟩
    cases s with
    | nil => exact .inl ⟨rfl, fun ⟨_, o, e⟩ => by cases e⟩
    | cons x s' =>
      refine .inr ⟨x, s', rfl, ?_⟩
      have hn := (next r2 x s' rfl).1
      simp only [dl]
      rw [if_neg (fun c => hn (isW_iff.mp c))]
  · obtain ⟨rfl, rfl⟩ := dl_catch h3
    obtain ⟨p1, t, b1, f, k', e1, B1, _, _⟩ := blk_bwd h1 (.inr (.inl rfl))
    obtain ⟨b2, s, e2, B2, r2⟩ := blk_fwd h4 hz
    refine ⟨p1, t, b1, b2, s, e1, e2, B1, B2, fun _ => Fails.of h1 ?_⟩
    cases s with
    | nil => exact .inl ⟨rfl, fun ⟨_, o, e⟩ => by cases e⟩
    | cons x s' =>
      refine .inr ⟨x, s', rfl, ?_⟩
      have hn := (next r2 x s' rfl).2
      simp only [dl]
      rw [if_neg (fun c => hn (isW_iff.mp c))]
  · obtain ⟨hmd, rfl⟩ := dl_or h3
    obtain ⟨p1, t, b1, f, k', e1, B1, eq, op⟩ := blk_bwd h1 (by rcases hmd with rfl | rfl <;> simp)
    obtain ⟨b2, s, e2, B2, r2⟩ := blk_fwd h4 hz
    refine ⟨p1, t, b1, b2, s, e1, e2, B1, B2, fun hc => ?_⟩
    rcases hc with hc | ⟨hc, hs⟩
    · exact absurd rfl hc
    have em : md = .aor := by
      cases eq
      subst hc
      cases f with
      | fe => rfl
      | fo => exact absurd (show kw "either" = kw "or" from op) (by decide +kernel)
      | pl => rcases hmd with h | h <;> cases h
      | fi => rcases hmd with h | h <;> cases h
      | ft => rcases hmd with h | h <;> cases h
    subst em
    refine Fails.of h1 ?_
    cases s with
    | nil => exact .inl ⟨rfl, fun ⟨_, o, e⟩ => by cases e⟩
    | cons x s' =>
      refine .inr ⟨x, s', rfl, ?_⟩
      have hn : x ≠ kw "or" := fun e => hs (by rw [e]; rfl)
      simp only [dl]
      rw [if_neg (fun c => hn (isW_iff.mp c))]
theorem inV_S {t : List Nat} {L : List (List Nat)} (h : inV (.str (S t)) (txV L) = true) : t ∈ L := by
  unfold inV at h
  rw [List.any_eq_true] at h
  obtain ⟨v, hv, e⟩ := h
  obtain ⟨y, hy, rfl⟩ : ∃ z, z ∈ L ∧ V.str (S z) = v := by simpa [txV] using hv
  have e : (S y == S t) = true := e
  rw [SX.S_beq] at e
  rwa [← eq_of_beq e]
theorem cut_one (ts : List (List Nat)) (x : Nat) : cutV (txV ts) (some ((x + 1 : Nat) : Int)) (some ((x + 2 : Nat) : Int)) = txV ((ts.drop (x + 1)).take 1) := by
  unfold cutV
  rw [txV_len, HT.sIx_nat, HT.sIx_nat]
  by_cases h : x + 2 ≤ ts.length
  · rw [Nat.min_eq_left h, Nat.min_eq_left (by omega), show x + 2 - (x + 1) = 1 by omega]
    simp [txV, List.map_drop, List.map_take]
  · rw [Nat.min_eq_right (by omega), show ts.length - min (x + 1) ts.length = 0 by omega, List.take_zero, List.drop_eq_nil_of_le (by omega)]
    rfl
theorem cond_left {K : PySem.W.Frag} {σ : L2.St} {H : Hp} {Q : Bool → Hp → Prop} {t t1 : List Nat} {ts : List (List Nat)} {p : Addr} {f e : Nat} (h4 : σ[4]? = some (some (.str (S t)))) (h1 : σ[1]? = some (some (.ref p))) (h5 : σ[5]? = some (some (.int (e : Nat)))) (h6 : σ[6]? = some (some (.int ((f + 1 : Nat) : Int))))
    (hp : H p = some (.lst (txV ts))) (hf : ts[f]? = some t1) (asc : ∀ t ∈ ts, Asc t) (q : ∀ c H', Same H H' → (c = true → t ≠ kw "or" ∨ (t1 = kw "either" ∧ (ts.drop (e + 1)).head? ≠ some (kw "or"))) → Q c H') :
    tOr (tTest (tOp rNe (tVar 4) (tC (.str "or")))) (tAnd (tTest (tOp rEq (tOp (rIxL K) (tVar 1) (tOp (rI0 fun i j => V.int (i - j)) (tVar 6) (tC (.int 1)))) (tC (.str "either")))) (tTest (tOp (rNeD K) (tSl (rSlL K) (tVar 1) (tPart (tOp (rI0 fun i j => V.int (i + j)) (tVar 5) (tC (.int 1)))) (tPart (tOp (rI0 fun i j => V.int (i + j)) (tVar 5) (tC (.int 2))))) (tLst (tCons (tC (.str "or")) tNil))))) σ H Q := by
  refine ⟨_, h4, rfl, _, rfl, ?_⟩
  refine ite2 (fun c => ?_) (fun c => ?_)
  · refine q true H (fun _ _ e => e) fun _ => .inl fun e => ?_
    rw [e, S_kw] at c
    exact absurd c (by decide +kernel)
  refine ⟨_, h1, _, h6, _, _, rfl, rfl, p, _, _, .str (S t1), rfl, rfl, SqL.of hp, (by rw [show ((f + 1 : Nat) : Int) - 1 = (f : Nat) by omega]; exact atI_nat (by simp [txV, hf])), rfl, _, rfl, ?_⟩
  refine ite2 (fun c1 => ?_) (fun c1 => ?_)
  · refine ⟨_, h1, _, h5, _, _, rfl, rfl, _, rfl, _, h5, _, _, rfl, rfl, _, rfl, p, _, rfl, SqL.of hp, fun p2 n2 => ?_⟩
    rw [show (e : Int) + 1 = ((e + 1 : Nat) : Int) from rfl, show (e : Int) + 2 = ((e + 2 : Nat) : Int) from rfl, cut_one]
    refine ⟨by decide, fun p3 n3 => ?_⟩
    have t2 := Same.new (o := .lst (txV ((ts.drop (e + 1)).take 1))) n2
    have t3 := Same.new (o := .lst [V.str "or"]) n3
    refine ⟨_, .list [.str "or"], .lst (SqL.of (t3 _ _ upd_same)) (dpA_txs _), .lst (SqL.of upd_same) (.cons (.str _) .nil), shaped_txs fun z hz => asc z (List.mem_of_mem_drop (List.mem_of_mem_take hz)), by decide +kernel, _, rfl, q _ _ (t2.trans t3) fun c2 => .inr ⟨?_, fun eh => ?_⟩⟩
    · have c1 : S t1 = "either" := V.str.inj (of_decide_eq_true c1)
      rw [kw, ← c1]
    · cases ed : ts.drop (e + 1) with
      | nil => rw [ed] at eh; cases eh
      | cons x r =>
        rw [ed] at eh c2
        cases eh
        have : (!PyData.eqv (.list ((List.take 1 (kw "or" :: r)).map fun t => .str (S t))) (.list [.str "or"])) = true := c2
        rw [List.take_succ_cons, List.take_zero, List.map_cons, List.map_nil, S_kw] at this
        exact absurd this (by decide +kernel)
  · exact q false H (fun _ _ e => e) fun e => by cases e
section
variable {P : Program} {w : World} {K : PySem.W.Frag} {mg : Str → Option Value} {base : Heap} {Z : Addrs}
/-- a spoiled text and its place: at q a pair of the signs and a number -/
def SpAt (H0 H : Hp) (ts : List (List Nat)) (v : V) : Prop := ∃ (q l : Addr) (x : Nat) (z : List (List Nat)), v = .ref q ∧ H q = some (.tup [.ref l, .int (x : Nat)]) ∧ H l = some (.lst (txV z)) ∧ H0 l = none ∧ Fails z x ∧ (∀ t ∈ z, t ∈ ts) ∧ z.length ≤ ts.length
theorem rows_dp {H0 H : Hp} {ts : List (List Nat)} (asc : ∀ t ∈ ts, Asc t) : ∀ rows : List V, (∀ v ∈ rows, SpAt H0 H ts v) → ∃ ds, DpAll K H rows ds ∧ PyData.canLayAll0 ds = true ∧ PyData.depthAll ds ≤ 2 ∧ (ds = [] ↔ rows = [])
  | [], _ => ⟨[], .nil, rfl, Nat.zero_le _, by simp⟩
  | v :: rows, h => by
    obtain ⟨ds, h1, h2, h3, _⟩ := rows_dp asc rows fun c hc => h c (List.mem_cons_of_mem _ hc)
    obtain ⟨q, l, x, z, rfl, e1, e2, _, _, hz, _⟩ := h v List.mem_cons_self
    obtain ⟨l1, l2⟩ := lays_txs z fun t ht => asc t (hz t ht)
    refine ⟨.tuple [.list (z.map fun t => .str (S t)), .int (x : Nat)] :: ds, .cons (.tup (SqT.of e1) (.cons (.lst (SqL.of e2) (dpA_txs z)) (.cons (.int _) .nil))) h1, ?_, ?_, by simp⟩
    · simp [PyData.canLayAll0, PyData.canLay0, l1, h2]
    · simp only [PyData.depthAll, PyData.depth, l2]
      omega
def spLeft : Sp := fun vs H Q _ => ∃ (b p : Addr) (ts : List (List Nat)), vs = [.ref b, .ref p] ∧ BagAt H b ∧ p ≠ b ∧ H p = some (.lst (txV ts)) ∧ ts.length ≤ 2000 ∧ (∀ t ∈ ts, Asc t) ∧ Valid ts ∧ (∀ H', Upto b H H' → BagAt H' b → Q .non H') ∧
  ∀ v H', SpAt H H' ts v → Upto b H H' → BagAt H' b → Q v H'
theorem c__law_left_out (T : Txt K mg Z) : Cal P w K mg base 5 "_law_left_out" spLeft [] := by
  have c__law_one : Cal P w K mg base 2 "_law_one" (spOne K) [] := c__law_one T
  have c__law_other_end : Cal P w K mg base 3 "_law_other_end" spOther [] := c__law_other_end T
  refine cal_of T.d__law_left_out sc__law_left_out (fun vs H Q E h => ?_) (fun f cdv A outer s H vs Q E hr h => ?_)
  · obtain ⟨b, p, ts, rfl, _⟩ := h
    rfl
  · obtain ⟨b, p, ts, rfl, B, hpb, hp, hlen, asc, hv, k1, k2⟩ := h
    refine ⟨_, (pss_cons (ps_set (i := 2) sc__law_left_out.nd rfl (by first | exact Or.inl rfl | exact Or.inr rfl) (pe_lst pa_nil))
      (pss_cons (ps_for PassesOwn.never rfl (pi_enum rfl T.b_enumerate (pa_cons (pv 1) pa_nil)) (pg_tup (by rfl) (pgs_cons (pg_name (i := 3) sc__law_left_out.nd rfl (by first | exact Or.inl rfl | exact Or.inr rfl)) (pgs_cons (pg_name (i := 4) sc__law_left_out.nd rfl (by first | exact Or.inl rfl | exact Or.inr rfl)) pgs_nil))) (pss_one (ps_if (pt_cmpR op_in_seq (pv 4) (pe_lst (pa_cons pe_str (pa_cons pe_str (pa_cons pe_str pa_nil)))) (by with_unfolding_all rfl)) (pss_cons (ps_set (i := 5) sc__law_left_out.nd rfl (by first | exact Or.inl rfl | exact Or.inr rfl) (pe_c c__law_other_end hr (by omega) rfl (pa_cons (pv 1) (pa_cons (pe_op op_add (pv 3) pe_int) (pa_cons pe_int pa_nil)))))
      (pss_cons (ps_set (i := 6) sc__law_left_out.nd rfl (by first | exact Or.inl rfl | exact Or.inr rfl) (pe_c c__law_other_end hr (by omega) rfl (pa_cons (pv 1) (pa_cons (pe_op op_sub (pv 3) pe_int) (pa_cons (pe_un un_neg pe_int) pa_nil)))))
      (pss_one (ps_if (PW.pt (pw_or (pt_cmpR op_ne (pv 4) pe_str (nomark _)) (pw_or1 (PW.pt (pw_and (pt_cmpR op_eq (pe_ix ix_list (pv 1) (pe_op op_sub (pv 6) pe_int) (fun _ _ => rfl)) pe_str (nomark _)) (pw_and1 (pt_cmpR (op_neD hr.units) (pe_slice sl_list (pv 1) (po_some (pe_op op_add (pv 5) pe_int)) (po_some (pe_op op_add (pv 5) pe_int))) (pe_lst (pa_cons pe_str pa_nil)) (nomark _)))))))) (pss_one (ps_expr (pe_bm PySem.F.plainAttrs_list PySem.F.slot_list_append PySem.F.type_list_append mt_append (pv 2) (pa_cons (pe_tup (pa_cons (pe_op op_cat (pe_slice sl_list (pv 1) po_none (po_some (pv 3))) (pe_slice sl_list (pv 1) (po_some (pe_op op_add (pv 5) pe_int)) po_none)) (pa_cons (pv 3) pa_nil))) pa_nil)))) pss_nil)))) pss_nil)))
      (pss_one (ps_ret (pe_ifExp (pt_cmpR (op_eqD hr.units) (pv 2) (pe_lst pa_nil) (nomark _)) pe_non (pe_c c__law_one hr (by omega) rfl (pa_cons (pv 0) (pa_cons (pv 2) pa_nil)))))))), ?_⟩
    refine ⟨sz (by simp), fun g ng => ⟨_, rfl, p, _, rfl, SqL.of ((Same.new ng) _ _ hp), ?_⟩⟩
    have sg := Same.new (o := .lst []) ng
    have bg := bagNe B ng
    refine for_it walk_enum (fun j σ H2 => ∃ (v3 v4 v5 v6 : Option V) (rows : List V), σ = [some (.ref b), some (.ref p), some (.ref g), v3, v4, v5, v6] ∧ H2 g = some (.lst rows) ∧ rows.length ≤ j ∧ Same H H2 ∧ ∀ v ∈ rows, SpAt (upd H g (.lst [])) H2 ts v)
      ⟨_, _, _, _, [], rfl, upd_same, Nat.zero_le _, sg, fun _ h => absurd h (List.not_mem_nil)⟩ (fun _ _ _ _ h => by obtain ⟨_, _, _, _, _, _, _, _, s, _⟩ := h; exact SqL.of (s _ _ hp)) ?_ ?_
    · rintro j y σ H2 H3 hj ⟨v3, v4, v5, v6, rows, rfl, hg, hl, s2, hrows⟩ ⟨T0, y1, y2, rfl, hT0, rfl, q1, q2⟩
      cases q1
      obtain ⟨t, ht, rfl⟩ : ∃ t, ts[j]? = some t ∧ y2 = .str (S t) := by
        have : (txV ts)[j]? = some y2 := q2
        simp only [txV, List.getElem?_map] at this
        cases e : ts[j]? with
        | none => rw [e] at this; cases this
        | some t => rw [e] at this; cases this; exact ⟨t, rfl, rfl⟩
      have hj2 := (List.getElem?_eq_some_iff.mp ht).1
      have t0 := Same.new (o := .tup [V.int (j : Nat), V.str (S t)]) hT0
      refine ⟨T0, _, rfl, SqT.of upd_same, rfl, _, _, rfl, _, _, rfl, rfl, ?_⟩
      refine ⟨_, rfl, by decide, fun p3 n3 => ⟨p3, _, rfl, .inl (SqL.of upd_same), rfl, rfl, _, rfl, ?_⟩⟩
      have s3 := t0.trans (Same.new (o := .lst [V.str "else", V.str "catch", V.str "or"]) n3)
      have keep : ∀ {H4 : Hp}, Same H2 H4 → ∀ v ∈ rows, SpAt (upd H g (.lst [])) H4 ts v := fun s v hv => by
        obtain ⟨q, l, x, z, e, h1, h2, h3⟩ := hrows v hv
        exact ⟨q, l, x, z, e, s _ _ h1, s _ _ h2, h3⟩
      refine ite2 (fun c => ?_) (fun c => ?_)
      · have hin : t ∈ [kw "else", kw "catch", kw "or"] := inV_S (by
          rw [show txV [kw "else", kw "catch", kw "or"] = [V.str "else", V.str "catch", V.str "or"] by simp [txV, S_kw]]
          exact c)
        have ets : ts = ts.take j ++ t :: ts.drop (j + 1) := by
          conv => lhs; rw [← List.take_append_drop j ts]
          rw [List.drop_eq_getElem_cons hj2, (List.getElem?_eq_some_iff.mp ht).2]
        obtain ⟨p1, t1, b1, b2, s', e1, e2, B1, B2, hfail⟩ := around (by rw [← ets]; exact hv) (by simpa using hin)
        have lj : (ts.take j).length = j := by rw [List.length_take]; omega
        have l1 : p1.length + 1 + b1.length = j := by rw [e1] at lj; simp at lj; omega
        have l2 : b2.length + s'.length = ts.length - (j + 1) := by rw [← List.length_append, ← e2, List.length_drop]
        have lb1 := List.length_pos_iff.mpr B1.ne
        have lb2 := List.length_pos_iff.mpr B2.ne
        have s4 := s2.trans s3
        have w2 : Way ts ((j : Int) + 1) 1 b2 := by
          have := way_fwd (p := ts.take j) (blk := b2) (s := s') (tok := t)
          rw [lj, ← e2, ← ets] at this
          exact this
        have w1 : Way ts ((j : Int) - 1) (-1) b1.reverse := by
          have := way_bwd (p := p1 ++ [t1]) (blk := b1) (s := t :: ts.drop (j + 1))
          rw [← e1, lj, ← ets] at this
          exact this
        refine ⟨_, rfl, _, rfl, _, _, rfl, rfl, p, ts, b2, (j : Int) + 1, 1, rfl, s4 _ _ hp, hlen, .inl rfl, w2, B2.ne, by omega, B2.z, B2.fwd, fun H4 s5 => ?_⟩
        rw [show (j : Int) + 1 + ((b2.length - 1 : Nat) : Int) * 1 = ((j + b2.length : Nat) : Int) by omega]
        have s6 := s4.trans s5
        refine ⟨_, rfl, _, rfl, _, _, rfl, rfl, _, rfl, p, ts, b1.reverse, (j : Int) - 1, -1, rfl, s6 _ _ hp, hlen, .inr rfl, w1, by simpa using B1.ne, by simp; omega, by rw [dpt_rev]; exact B1.z, B1.bwd, fun H5 s7 => ?_⟩
        rw [List.length_reverse, show (j : Int) - 1 + ((b1.length - 1 : Nat) : Int) * (-1) = ((p1.length + 1 : Nat) : Int) by omega]
        have s8 := s6.trans s7
        have es' : ts.drop (j + b2.length + 1) = s' := by
          rw [show j + b2.length + 1 = (j + 1) + b2.length by omega, ← List.drop_drop, e2, List.drop_left]
        have et1 : ts[p1.length]? = some t1 := by
          rw [ets, e1]
          simp
        refine cond_left (t := t) (t1 := t1) (ts := ts) (p := p) (f := p1.length) (e := j + b2.length) rfl rfl rfl rfl (s8 _ _ hp) et1 asc fun c H6 s9 hc => ?_
        rw [es'] at hc
        have s10 := s8.trans s9
        have s11 : Same H2 H6 := s3.trans (s5.trans (s7.trans s9))
        refine ite2 (fun c' => ?_) (fun c' => ?_)
        · have hf := hfail (hc c')
          have hp6 := s10 _ _ hp
          have hg6 := s11 _ _ hg
          refine ⟨_, rfl, .inl ⟨rfl, _, SqL.of hg6⟩, _, rfl, _, rfl, _, rfl, p, _, rfl, SqL.of hp6, fun m1 f1 => ?_⟩
          rw [cut_to ts j (by omega)]
          have t1 := Same.new (o := .lst (txV (ts.take j))) f1
          refine ⟨_, rfl, _, rfl, _, _, rfl, rfl, _, rfl, p, _, rfl, SqL.of (t1 _ _ hp6), fun m2 f2 => ?_⟩
          rw [show ((j + b2.length : Nat) : Int) + 1 = ((j + b2.length + 1 : Nat) : Int) from rfl, cut_from, es']
          have t2 := Same.new (o := .lst (txV s')) f2
          have hl1 : (txV (ts.take j)).length ≤ 2000 := by rw [txV_len]; omega
          have hl2 : (txV s').length ≤ 2000 := by rw [txV_len]; omega
          refine ⟨m1, m2, _, _, rfl, rfl, t2 _ _ upd_same, upd_same, Nat.le_trans (by omega : _ ≤ 4000) (by decide), fun m3 f3 => ?_⟩
          rw [show txV (ts.take j) ++ txV s' = txV (ts.take j ++ s') by simp [txV]]
          have t3 := Same.new (o := .lst (txV (ts.take j ++ s'))) f3
          refine ⟨_, rfl, (by show 2 ≤ sizeLine; decide), fun q mq => ?_⟩
          have t4 := Same.new (o := .tup [V.ref m3, V.int (j : Nat)]) mq
          have t14 := t1.trans (t2.trans (t3.trans t4))
          have hg10 := t14 _ _ hg6
          have s15 := s10.trans t14
          refine ⟨g, _, _, rfl, rfl, hg10, Nat.lt_of_le_of_lt (by omega : _ ≤ 2000) (by decide), ?_⟩
          have up : ∀ {v : V} {r : List V} {H9 : Hp}, H9 g = some (.lst rows) → SpAt (upd H g (.lst [])) H9 ts v → SpAt (upd H g (.lst [])) (upd H9 g (.lst r)) ts v := by
            rintro v r H9 h0 ⟨q, l, x, z, e, h1, h2, h3, h4⟩
            have nq : q ≠ g := fun e => by rw [e, h0] at h1; cases h1
            have nl : l ≠ g := fun e => by rw [e, upd_same] at h3; cases h3
            exact ⟨q, l, x, z, e, by rw [upd_ne nq]; exact h1, by rw [upd_ne nl]; exact h2, h3, h4⟩
          refine ⟨_, _, _, _, rows ++ [.ref q], rfl, upd_same, by simp; omega, fun a o e => by rw [upd_ne (ne_of_none e ng)]; exact s15 a o e, fun v hv => ?_⟩
          refine up hg10 ?_
          rcases List.mem_append.mp hv with h | h
          · exact keep (s11.trans t14) v h
          · cases List.mem_singleton.mp h
            have n3' : (upd H g (.lst [])) m3 = none := by
              have n0 : H m3 = none := (s10.trans (t1.trans t2)).free f3
              have ne : m3 ≠ g := fun e => by
                have := (t1.trans t2) _ _ hg6
                rw [e, this] at f3
                cases f3
              rw [upd_ne ne]
              exact n0
            rw [lj] at hf
            refine ⟨q, m3, j, _, rfl, upd_same, t4 _ _ upd_same, n3', hf, fun x hx => ?_, by rw [List.length_append]; omega⟩
            rcases List.mem_append.mp hx with h | h
            · exact List.mem_of_mem_take h
            · rw [← es'] at h
              exact List.mem_of_mem_drop h
        · exact ⟨_, _, _, _, rows, rfl, s11 _ _ hg, by omega, s10, keep s11⟩
      · exact ⟨_, _, _, _, rows, rfl, s3 _ _ hg, by omega, s2.trans s3, keep s3⟩
    · rintro σ H2 ⟨v3, v4, v5, v6, rows, rfl, hg, hl, s2, hrows⟩
      rw [txV_len] at hl
      obtain ⟨ds, d1, d2, d3, d4⟩ := rows_dp (K := K) asc rows hrows
      have sh : SeqAt.shaped (.list ds) = true := by
        unfold SeqAt.shaped
        rw [PyData.canLay0, d2, PyData.depth, decide_eq_true (by omega)]
        rfl
      refine ⟨_, rfl, sz (by simp), fun p3 n3 => ?_⟩
      have t3 := Same.new (o := .lst []) n3
      have hrows3 : ∀ v ∈ rows, SpAt (upd H g (.lst [])) (upd H2 p3 (.lst [])) ts v := fun v hv => by
        obtain ⟨q, l, x, z, e, h1, h2, h3⟩ := hrows v hv
        exact ⟨q, l, x, z, e, t3 _ _ h1, t3 _ _ h2, h3⟩
      obtain ⟨ds, d1, d2, d3, d4⟩ := rows_dp (K := K) asc rows hrows3
      have sh : SeqAt.shaped (.list ds) = true := by
        unfold SeqAt.shaped
        rw [PyData.canLay0, d2, PyData.depth, decide_eq_true (by omega)]
        rfl
      refine ⟨_, .list [], .lst (SqL.of (t3 _ _ hg)) d1, .lst (SqL.of upd_same) .nil, sh, rfl, _, rfl, ?_⟩
      have eqv : PyData.eqv (.list ds) (.list []) = decide (ds = []) := by cases ds <;> rfl
      rw [eqv]
      have s4 := s2.trans t3
      have B4 := B.same s4
      refine ite2 (fun c => ?_) (fun c => ?_)
      · exact k1 _ (Upto.of s4) B4
      · have hr : rows ≠ [] := fun e => c (decide_eq_true (d4.mpr e))
        have gb : g ≠ b := bg
        refine ⟨_, rfl, _, rfl, b, g, rows, rfl, B4, gb, t3 _ _ hg, List.length_pos_iff.mpr hr, by omega, fun v H5 hv u5 B5 => ?_⟩
        obtain ⟨q, l, x, z, e, h1, h2, h3, h4⟩ := hrows3 v hv
        have nl : H l = none := by
          have : l ≠ g := fun e => by rw [e, upd_same] at h3; cases h3
          rwa [upd_ne this] at h3
        have qb : q ≠ b := fun e => by
          obtain ⟨_, _, _, hb⟩ := B4
          rw [e, hb] at h1
          cases h1
        have lb : l ≠ b := fun e => by
          obtain ⟨_, _, _, hb⟩ := B
          rw [e, hb] at nl
          cases nl
        exact k2 v H5 ⟨q, l, x, z, e, u5 _ _ qb h1, u5 _ _ lb h2, nl, h4⟩ ((Upto.of s4).trans u5) B5
end

/-! ### 25. each kind of spoiling fails where it was made -/
def foreign : List (List Nat) := [kw "?", kw "7", kw "_", kw ".", kw "=", kw "~", kw "\t"]
def mores : List (List Nat) := [kw "}", kw ")", kw ";", kw ",", kw "{", kw "init", kw "else", kw "catch", kw "class", kw "a", kw "Aa"]
def plainB (x : List Nat) : Bool := !inV (.str (S x)) stepV && !isW x "or" && !isW x "}" && !wordL x && !classL x && !isW x ";" && !isW x "{" && !isW x "else" && !isW x "catch"
theorem foreign_ok : ∀ x ∈ foreign, plainB x = true ∧ tokB x = true := by
  have h : (foreign.all fun x => plainB x && tokB x) = true := by decide +kernel
  intro x hx
  have := List.all_eq_true.mp h x hx
  simpa using this
theorem mores_ok : ∀ x ∈ mores, (inV (.str (S x)) stepV = false ∧ isW x "or" = false) ∧ tokB x = true := by
  have h : (mores.all fun x => (!inV (.str (S x)) stepV && !isW x "or") && tokB x) = true := by decide +kernel
  intro x hx
  have := List.all_eq_true.mp h x hx
  simpa using this
theorem dl_foreign {M : Nat} {md : Md} {k : List Fr} {x : List Nat} (h : plainB x = true) : dl M md k x = none := by
  simp only [plainB, Bool.and_eq_true, Bool.not_eq_true'] at h
  obtain ⟨⟨⟨⟨⟨⟨⟨⟨h1, h2⟩, h3⟩, h4⟩, h5⟩, h6⟩, h7⟩, h8⟩, h9⟩ := h
  cases md <;> simp [dl, h1, h2, h3, h4, h5, h6, h7, h8, h9]
theorem valid_take {ts : List (List Nat)} (hv : Valid ts) (x : Nat) : ∃ q, run 6 st0 (ts.take x) = some q := by
  obtain ⟨z, h, _⟩ := hv
  rw [← List.take_append_drop x ts] at h
  obtain ⟨q, h1, _⟩ := run_cut h
  exact ⟨q, h1⟩
theorem fails_0 {ts : List (List Nat)} (hv : Valid ts) {x : Nat} (hx : x ≤ ts.length) {t : List Nat} (ht : t ∈ foreign) : Fails (ts.take x ++ [t] ++ ts.drop x) x := by
  obtain ⟨q, h⟩ := valid_take hv x
  have := Fails.of (s := t :: ts.drop x) h (.inr ⟨t, _, rfl, dl_foreign (foreign_ok t ht).1⟩)
  rw [List.length_take, Nat.min_eq_left hx] at this
  rw [List.append_assoc, List.singleton_append]
  exact this
theorem dpt_count : ∀ l : List (List Nat), dpt l = ((l.count (kw "{") : Nat) : Int) - ((l.count (kw "}") : Nat) : Int)
  | [] => rfl
  | t :: l => by
    have ne : (kw "{" : List Nat) ≠ kw "}" := by decide +kernel
    simp only [dpt, List.count_cons, dpt_count l]
    rcases dp1_cases t with ⟨rfl, e⟩ | ⟨rfl, e⟩ | ⟨h1, h2, e⟩
    · rw [e]
      simp [ne]
      omega
    · rw [e]
      simp [ne.symm]
      omega
    · rw [e]
      simp [h1, h2]
theorem fails_1 {ts : List (List Nat)} (hv : Valid ts) {x : Nat} (hx : x ≤ ts.length) (ho : openB (ts.take x) = true) : Fails (ts.take x) x := by
  obtain ⟨q, h⟩ := valid_take hv x
  have hf : ¬ Fin' q := by
    rintro ⟨q2, o, q1⟩
    have d := run_dep _ h
    rw [q2] at d
    rcases List.eq_nil_or_concat (ts.take x) with e | ⟨p, t, e⟩
    · rw [e] at ho
      cases ho
    · rw [List.concat_eq_append] at e
      rw [e] at h ho d
      obtain ⟨q', h1, h2⟩ := run_cut h
      obtain ⟨q3, h3, h4⟩ := run_cons h2
      cases h4
      have hl : t = kw "}" ∨ t = kw ";" := by
        rcases dl_stack h3 with ⟨_, f, _, rfl, _⟩ | ⟨e, _⟩ | ⟨_, _, _, e⟩
        · cases q2
        · exact .inl e
        · exact .inr (e ⟨o, q1⟩)
      have hin : inV (.str (S t)) [.str "}", .str ";"] = true := by
        rcases hl with rfl | rfl <;> rw [S_kw] <;> decide +kernel
      unfold openB at ho
      rw [List.getLast?_append] at ho
      simp only [List.getLast?_singleton, Option.some_or, hin, Bool.not_true, Bool.false_or, decide_eq_true_eq] at ho
      rw [dpt_count] at d
      change (0 : Int) = 0 + _ at d
      omega
  have := Fails.of (s := []) h (.inl ⟨rfl, hf⟩)
  rw [List.append_nil, List.length_take, Nat.min_eq_left hx] at this
  exact this
theorem fails_2 {ts : List (List Nat)} (hv : Valid ts) {x : Nat} (x1 : 1 ≤ x) (x2 : x < ts.length) {t z : List Nat} (et : ts[x - 1]? = some t) (hb : Bad t z) : Fails (ts.take x ++ [z] ++ ts.drop (x + 1)) x := by
  obtain ⟨q, h⟩ := valid_take hv x
  have e : ts.take x = ts.take (x - 1) ++ [t] := by
    conv => lhs; rw [show x = (x - 1) + 1 by omega, List.take_add_one, et]
    rfl
  have h0 := h
  rw [e] at h
  obtain ⟨q', h1, h2⟩ := run_cut h
  obtain ⟨q3, h3, h4⟩ := run_cons h2
  cases h4
  have hn : dl 6 q.1 q.2 z = none := by
    rcases hb.2.2 with ⟨hw, hz⟩ | ⟨hw, hz⟩
    · have hin : t ∈ [kw "set", kw "keep", kw "read", kw "look", kw "call", kw "if"] := inV_S (by
        rw [show txV [kw "set", kw "keep", kw "read", kw "look", kw "call", kw "if"] = W1 by simp [txV, S_kw, W1]]
        exact hw)
      have em : q.1 = .nw ∨ q.1 = .ni := by
        simp only [List.mem_cons, List.not_mem_nil, or_false] at hin
        rcases hin with rfl | rfl | rfl | rfl | rfl | rfl
        all_goals
          have := dl_begin h3 (by decide +kernel) (by decide +kernel) (by decide +kernel) (by decide +kernel)
          rw [this]
        · exact .inl (show dW (kw "set") = .nw by decide +kernel)
        · exact .inl (show dW (kw "keep") = .nw by decide +kernel)
        · exact .inl (show dW (kw "read") = .nw by decide +kernel)
        · exact .inl (show dW (kw "look") = .nw by decide +kernel)
        · exact .inl (show dW (kw "call") = .nw by decide +kernel)
        · exact .inr (show dW (kw "if") = .ni by decide +kernel)
      rcases em with em | em <;> rw [em] <;> simp [dl, hz]
    · have hin : t ∈ [kw "of", kw "make"] := inV_S (by
        rw [show txV [kw "of", kw "make"] = W2 by simp [txV, S_kw, W2]]
        exact hw)
      have em : q.1 = .nc := by
        simp only [List.mem_cons, List.not_mem_nil, or_false] at hin
        rcases hin with rfl | rfl
        all_goals
          have := dl_begin h3 (by decide +kernel) (by decide +kernel) (by decide +kernel) (by decide +kernel)
          rw [this]
        · exact (show dW (kw "of") = .nc by decide +kernel)
        · exact (show dW (kw "make") = .nc by decide +kernel)
      rw [em]
      simp [dl, hz]
  have := Fails.of (s := z :: ts.drop (x + 1)) h0 (.inr ⟨z, _, rfl, hn⟩)
  rw [List.length_take, Nat.min_eq_left (by omega)] at this
  rw [List.append_assoc, List.singleton_append]
  exact this
theorem fails_3 {ts : List (List Nat)} (hv : Valid ts) {x : List Nat} (hx : x ∈ mores) : Fails (ts ++ [x]) ts.length := by
  obtain ⟨⟨md, k⟩, h, hk, o, ho⟩ := hv
  cases hk
  cases ho
  obtain ⟨⟨h1, h2⟩, _⟩ := mores_ok x hx
  refine Fails.of h (.inr ⟨x, [], rfl, ?_⟩)
  cases o <;> simp [dl, h1, h2, popF]
/-- a tower too deep -/
theorem run_shallow : ∀ (p : List (List Nat)) {q z : Md × List Fr}, run 7 q p = some z → (∀ a b, p = a ++ b → (q.2.length : Int) + dpt a ≤ 6) → run 6 q p = some z
  | [], _, _, h, _ => h
  | t :: p, q, z, h, hd => by
    obtain ⟨q', h1, h2⟩ := run_cons h
    have h3 : dl 6 q.1 q.2 t = some q' := by
      obtain ⟨md, k⟩ := q
      cases md with
      | op f =>
        simp only [dl] at h1 ⊢
        split at h1
        · rename_i c
          cases h1
          rw [Bool.and_eq_true, decide_eq_true_eq] at c
          have e := isW_iff.mp c.1
          subst e
          have := hd [kw "{"] p rfl
          rw [dpt_one, dp1_o] at this
          rw [if_pos (by rw [Bool.and_eq_true, decide_eq_true_eq]; exact ⟨c.1, by simp at this; omega⟩)]
        · cases h1
      | _ => exact h1
    show (dl 6 q.1 q.2 t).bind _ = _
    rw [h3]
    have hl := dl_dep h1
    refine run_shallow p h2 fun a b e => ?_
    have := hd (t :: a) b (by rw [e]; rfl)
    simp only [dpt] at this
    omega
theorem fails_deep {ts : List (List Nat)} {z : Md × List Fr} (h : run 7 st0 ts = some z) {x : Nat} (hx : x < ts.length) (hd : dpt (ts.take (x + 1)) = 7) (hb : ∀ y, y ≤ x → dpt (ts.take y) ≤ 6) : Fails ts x := by
  have es : ts = ts.take x ++ ts.drop x := (List.take_append_drop x ts).symm
  rw [es] at h
  obtain ⟨q, h1, h2⟩ := run_cut h
  have ed : ts.drop x = ts[x] :: ts.drop (x + 1) := List.drop_eq_getElem_cons hx
  rw [ed] at h2
  obtain ⟨q', h3, _⟩ := run_cons h2
  have e1 : ts.take (x + 1) = ts.take x ++ [ts[x]] := by
    rw [List.take_add_one, List.getElem?_eq_getElem hx]
    rfl
  rw [e1, dpt_app, dpt_one] at hd
  have h6 := hb x (Nat.le_refl _)
  have hl := run_dep _ h1
  rcases dp1_cases ts[x] with ⟨e, e'⟩ | ⟨_, e'⟩ | ⟨_, _, e'⟩
  · have r6 : run 6 st0 (ts.take x) = some q := run_shallow _ h1 fun a b e => by
      have la : a = ts.take a.length := by
        have h5 : (a ++ b).take a.length = a := List.take_left
        rw [← e, List.take_take] at h5
        have : a.length ≤ x := by
          have := congrArg List.length e
          rw [List.length_take, List.length_append] at this
          omega
        rw [Nat.min_eq_left this] at h5
        exact h5.symm
      have : a.length ≤ x := by
        have := congrArg List.length e
        rw [List.length_take, List.length_append] at this
        omega
      have := hb a.length this
      rw [← la] at this
      simp [st0]
      exact this
    have hq : q.2.length = 6 := by
      simp [st0] at hl
      omega
    have hn : dl 6 q.1 q.2 ts[x] = none := by
      cases hd6 : dl 6 q.1 q.2 ts[x] with
      | none => rfl
      | some q3 =>
        rcases dl_stack hd6 with ⟨_, f, em, _, hlt⟩ | ⟨e2, _⟩ | ⟨e2, _⟩
        · omega
        · rw [e] at e2
          exact absurd e2 (by decide +kernel)
        · exact absurd e e2
    have := Fails.of (s := ts.drop x) r6 (.inr ⟨ts[x], _, ed, hn⟩)
    rw [← es, List.length_take, Nat.min_eq_left (by omega)] at this
    exact this
  · omega
  · omega
theorem deepF_spec : ∀ (ts : List (List Nat)) (d i : Int), d ≤ 6 → (deepF d i ts = -1 ∧ ∀ y, d + dpt (ts.take y) ≤ 6) ∨ ∃ x : Nat, deepF d i ts = i + x ∧ x < ts.length ∧ d + dpt (ts.take (x + 1)) = 7 ∧ ∀ y, y ≤ x → d + dpt (ts.take y) ≤ 6
  | [], d, i, h => .inl ⟨rfl, fun y => by simp [dpt]; exact h⟩
  | t :: ts, d, i, h => by
    unfold deepF
    by_cases c : d + dp1 t = 7
    · rw [if_pos c]
      refine .inr ⟨0, by simp, by simp, by simp [dpt]; exact c, fun y hy => ?_⟩
      rw [Nat.le_zero.mp hy]
      simp [dpt]
      exact h
    · rw [if_neg c]
      have h2 : d + dp1 t ≤ 6 := by
        rcases dp1_cases t with ⟨_, e⟩ | ⟨_, e⟩ | ⟨_, _, e⟩ <;> omega
      rcases deepF_spec ts (d + dp1 t) (i + 1) h2 with ⟨e1, e2⟩ | ⟨x, e1, e2, e3, e4⟩
      · refine .inl ⟨e1, fun y => ?_⟩
        cases y with
        | zero => simp [dpt]; exact h
        | succ y =>
          have := e2 y
          rw [List.take_succ_cons]
          simp only [dpt]
          omega
      · refine .inr ⟨x + 1, by rw [e1]; omega, by simp; omega, by rw [List.take_succ_cons]; simp only [dpt]; omega, fun y hy => ?_⟩
        cases y with
        | zero => simp [dpt]; exact h
        | succ y =>
          have := e4 y (by omega)
          rw [List.take_succ_cons]
          simp only [dpt]
          omega

/-! ### 26. the law's spoiling -/
section
variable {P : Program} {w : World} {K : PySem.W.Frag} {mg : Str → Option Value} {base : Heap} {Z : Addrs}
def SpR (H0 H : Hp) (v : V) : Prop := ∃ (q l : Addr) (x : Nat) (z : List (List Nat)), v = .ref q ∧ H q = some (.tup [.ref l, .int (x : Nat)]) ∧ H l = some (.lst (txV z)) ∧ H0 l = none ∧ Fails z x ∧ (∀ t ∈ z, IsTok t ∧ t.length ≤ 9) ∧ z.length ≤ 2000
def spSpoiled : Sp := fun vs H Q _ => ∃ (b p : Addr) (ts : List (List Nat)), vs = [.ref b, .ref p] ∧ BagAt H b ∧ p ≠ b ∧ H p = some (.lst (txV ts)) ∧ ts.length ≤ 1999 ∧ (∀ t ∈ ts, Asc t) ∧ (∀ t ∈ ts, IsTok t ∧ t.length ≤ 9) ∧ Valid ts ∧
  ∀ v H', SpR H H' v → Upto b H H' → BagAt H' b → Q v H'
theorem c__law_spoiled (T : Txt K mg Z) : Cal P w K mg base 6 "_law_spoiled" spSpoiled [] := by
  have c__law_one : Cal P w K mg base 2 "_law_one" (spOne K) [] := c__law_one T
  have c__law_draw : Cal P w K mg base 1 "_law_draw" spDraw [] := c__law_draw T
  have c__law_left_out : Cal P w K mg base 5 "_law_left_out" spLeft [] := c__law_left_out T
  have c__law_wrong_word : Cal P w K mg base 4 "_law_wrong_word" spWrong [] := c__law_wrong_word T
  have c__law_is_open : Cal P w K mg base 3 "_law_is_open" (spOpen K) [] := c__law_is_open T
  refine cal_of T.d__law_spoiled sc__law_spoiled (fun vs H Q E h => ?_) (fun f cdv A outer s H vs Q E hr h => ?_)
  · obtain ⟨b, p, ts, rfl, _⟩ := h
    rfl
  · obtain ⟨b, p, ts, rfl, B, hpb, hp, hlen, asc, htk, hv, k⟩ := h
    refine ⟨_, (pss_cons (ps_par (i := 2) (j := 3) (by rfl) sc__law_spoiled.nd rfl rfl (by decide) rfl rfl (pa_cons (pe_c c__law_draw hr (by omega) rfl (pa_cons (pv 0) (pa_cons pe_int pa_nil))) (pa_cons (pe_c c__law_draw hr (by omega) rfl (pa_cons (pv 0) (pa_cons (pe_op op_add (pe_callB call_len_seq (by rfl) T.b_len (by decide +kernel) (pa_cons (pv 1) pa_nil)) pe_int) pa_nil))) pa_nil)) (by rfl))
      (C8.pss_cut (ps_if (pt_cmpR op_eq (pv 2) pe_int (nomark _)) (pss_cons (ps_set (i := 4) sc__law_spoiled.nd rfl (by first | exact Or.inl rfl | exact Or.inr rfl) (pe_c c__law_left_out hr (by omega) rfl (pa_cons (pv 0) (pa_cons (pv 1) pa_nil))))
      (pss_one (ps_if (pt_cmpR op_notN (pv 4) pe_non (nomark _)) (pss_one (ps_ret (pv 4))) pss_nil))) pss_nil)
      (pss_cons (ps_if (pt_cmpR op_eq (pv 2) pe_int (nomark _)) (pss_one (ps_ret (pe_tup (pa_cons (pe_op op_cat (pe_op op_cat (pe_slice sl_list (pv 1) po_none (po_some (pv 3))) (pe_lst (pa_cons (pe_c c__law_one hr (by omega) rfl (pa_cons (pv 0) (pa_cons (pe_lst (pa_cons pe_str (pa_cons pe_str (pa_cons pe_str (pa_cons pe_str (pa_cons pe_str (pa_cons pe_str (pa_cons pe_str pa_nil)))))))) pa_nil))) pa_nil))) (pe_slice sl_list (pv 1) (po_some (pv 3)) po_none)) (pa_cons (pv 3) pa_nil))))) pss_nil)
      (C8.pss_cut (ps_if (pt_cmpR op_eq (pv 2) pe_int (nomark _)) (pss_cons (ps_setLc (i := 5) (own := [("cut", 6)]) (g := gName 6)  rfl sc__law_spoiled.nd rfl rfl (sw_true rfl rfl rfl (by decide +kernel)) (pi_range2 rfl T.b_range (pa_cons pe_int (pa_cons (pe_callB call_len_seq (by rfl) T.b_len (by decide +kernel) (pa_cons (pv 1) pa_nil)) pa_nil))) (blkOk_by (N := ["bag", "tokens", "kind", "at", "found", "some", "cut", "more"]) (sc := defScope s__law_spoiled) (by decide +kernel)) (fun _ _ _ _ _ => (pg_name (i := 6) sc__law_spoiled.nd rfl (by first | exact Or.inl rfl | exact Or.inr rfl))) (fun _ _ _ _ _ => pts_one (pt_val (pe_c c__law_is_open hr (by omega) rfl (pa_cons (pe_slice (kx_slL (K := K) rfl) (pv 1) po_none (po_some (pv 6))) pa_nil)))) (fun _ _ _ _ _ => (pv 6)))
      (pss_one (ps_if (pt_cmpR (op_neD hr.units) (pv 5) (pe_lst pa_nil) (nomark _)) (pss_cons (ps_set (i := 6) sc__law_spoiled.nd rfl (by first | exact Or.inl rfl | exact Or.inr rfl) (pe_c c__law_one hr (by omega) rfl (pa_cons (pv 0) (pa_cons (pv 5) pa_nil))))
      (pss_one (ps_ret (pe_tup (pa_cons (pe_slice sl_list (pv 1) po_none (po_some (pv 6))) (pa_cons (pv 6) pa_nil)))))) pss_nil))) pss_nil)
      (C8.pss_cut (ps_if (pt_cmpR op_eq (pv 2) pe_int (nomark _)) (pss_cons (ps_set (i := 4) sc__law_spoiled.nd rfl (by first | exact Or.inl rfl | exact Or.inr rfl) (pe_c c__law_wrong_word hr (by omega) rfl (pa_cons (pv 0) (pa_cons (pv 1) pa_nil))))
      (pss_one (ps_if (pt_cmpR op_notN (pv 4) pe_non (nomark _)) (pss_one (ps_ret (pv 4))) pss_nil))) pss_nil)
      (pss_cons (ps_set (i := 7) sc__law_spoiled.nd rfl (by first | exact Or.inl rfl | exact Or.inr rfl) (pe_lst (pa_cons pe_str (pa_cons pe_str (pa_cons pe_str (pa_cons pe_str (pa_cons pe_str (pa_cons pe_str (pa_cons pe_str (pa_cons pe_str (pa_cons pe_str (pa_cons pe_str (pa_cons pe_str pa_nil)))))))))))))
      (pss_one (ps_ret (pe_tup (pa_cons (pe_op op_cat (pv 1) (pe_lst (pa_cons (pe_c c__law_one hr (by omega) rfl (pa_cons (pv 0) (pa_cons (pv 7) pa_nil))) pa_nil))) (pa_cons (pe_callB call_len_seq (by rfl) T.b_len (by decide +kernel) (pa_cons (pv 1) pa_nil)) pa_nil))))))))))), ?_⟩
    have foreign_V : txV foreign = [.str "?", .str "7", .str "_", .str ".", .str "=", .str "~", .str "\t"] := by simp [txV, foreign, S_kw]
    have mores_V : txV mores = [.str "}", .str ")", .str ";", .str ",", .str "{", .str "init", .str "else", .str "catch", .str "class", .str "a", .str "Aa"] := by simp [txV, mores, S_kw]
    have free : ∀ {H' : Hp} {l : Addr}, Upto b H H' → BagAt H' b → H' l = none → H l = none := fun u B' e => none_upto u e (bagNe B' e)
    have mem : ∀ {v : V} {L : List (List Nat)}, v ∈ txV L → ∃ t, t ∈ L ∧ v = .str (S t) := fun {v L} h => by
      obtain ⟨z, hz, e⟩ : ∃ z, z ∈ L ∧ V.str (S z) = v := by simpa [txV] using h
      exact ⟨z, hz, e.symm⟩
    refine ⟨_, rfl, b, 5, rfl, B, by decide, lt9000 (by decide) (by decide), fun kd H1 d0 d1 u1 B1 => ?_⟩
    have hp1 := u1 _ _ hpb hp
    refine ⟨_, rfl, _, rfl, p, _, rfl, .inl (SqL.of hp1), _, _, rfl, rfl, b, _, rfl, B1, by rw [txV_len]; omega, lt9000 (by rw [txV_len]; omega) (by rw [txV_len]; omega), fun at0 H2 a0 a1 u2 B2 => ⟨_, _, rfl, ?_⟩⟩
    rw [txV_len] at a1
    obtain ⟨a, rfl⟩ : ∃ a : Nat, at0 = (a : Int) := ⟨at0.toNat, by omega⟩
    have ha : a ≤ ts.length := by omega
    have U2 : Upto b H H2 := u1.trans u2
    have hsz : (-2 ^ 62 : Int) ≤ (txV ts).length ∧ ((txV ts).length : Int) < 2 ^ 62 := by rw [txV_len]; constructor <;> omega
    refine ⟨fun σ' H' => ∃ v4 v5 v6 v7, σ' = [some (.ref b), some (.ref p), some (.int kd), some (.int (a : Nat)), v4, v5, v6, v7] ∧ Upto b H H' ∧ BagAt H' b, ?_, ?_⟩
    · refine ⟨_, rfl, rfl, _, rfl, ite2 (fun c => ?_) (fun c => ⟨_, _, _, _, rfl, U2, B2⟩)⟩
      refine ⟨_, rfl, _, rfl, b, p, ts, rfl, B2, hpb, U2 _ _ hpb hp, by omega, asc, hv, fun H3 u3 B3 => ?_, fun v H3 hs u3 B3 => ?_⟩
      · exact ⟨_, rfl, rfl, _, rfl, iteF ⟨_, _, _, _, rfl, U2.trans u3, B3⟩⟩
      · obtain ⟨q, l, x, z, rfl, h1, h2, h3, h4, h5, h6⟩ := hs
        refine ⟨_, rfl, rfl, _, rfl, ?_⟩
        refine ⟨_, rfl, ?_⟩
        exact k _ H3 ⟨q, l, x, z, rfl, h1, h2, free U2 B2 h3, h4, fun t ht => htk t (h5 t ht), by omega⟩ (U2.trans u3) B3
    rintro σ' H3 ⟨v4, v5, v6, v7, rfl, U3, B3⟩
    have hp3 := U3 _ _ hpb hp
    refine ⟨_, rfl, rfl, _, rfl, ite2 (fun c => ?_) (fun c => ?_)⟩
    · -- a foreign sign
      refine ⟨_, rfl, _, rfl, _, rfl, p, _, rfl, SqL.of hp3, fun p1 f1 => ?_⟩
      rw [cut_to ts a ha]
      have t1 := Same.new (o := .lst (txV (ts.take a))) f1
      have B4 := B3.same t1
      refine ⟨_, rfl, by decide, fun p2 f2 => ⟨b, p2, _, rfl, B4.upd (bagNe B4 f2), bagNe B4 f2, upd_same, by decide, by decide, fun v H4 hv4 u4 B5 => ?_⟩⟩
      rw [← foreign_V] at hv4
      obtain ⟨t, ht, rfl⟩ := mem hv4
      have p1b := bagNe B3 f1
      have U4 : Upto b H H4 := ((U3.trans (Upto.of t1)).trans (Upto.new f2)).trans u4
      have h1 : H4 p1 = some (.lst (txV (ts.take a))) := u4 _ _ p1b ((Same.new f2) _ _ upd_same)
      refine ⟨(by show 1 ≤ sizeLine; decide), fun p3 f3 => ?_⟩
      have t3 := Same.new (o := .lst [V.str (S t)]) f3
      have hl1 : (txV (ts.take a)).length ≤ 2000 := by rw [txV_len, List.length_take]; omega
      refine ⟨p1, p3, _, _, rfl, rfl, t3 _ _ h1, upd_same, Nat.le_trans (by simp; omega : _ ≤ 2001) (by decide), fun p4 f4 => ?_⟩
      have t4 := Same.new (o := .lst (txV (ts.take a) ++ [V.str (S t)])) f4
      refine ⟨_, rfl, _, rfl, _, rfl, p, _, rfl, SqL.of (t4 _ _ (t3 _ _ (U4 _ _ hpb hp))), fun p5 f5 => ?_⟩
      rw [cut_from]
      have t5 := Same.new (o := .lst (txV (ts.drop a))) f5
      have hl2 : (txV (ts.drop a)).length ≤ 2000 := by rw [txV_len, List.length_drop]; omega
      refine ⟨p4, p5, _, _, rfl, rfl, t5 _ _ upd_same, upd_same, Nat.le_trans (by simp; omega : _ ≤ 4001) (by decide), fun p6 f6 => ?_⟩
      rw [show txV (ts.take a) ++ [V.str (S t)] ++ txV (ts.drop a) = txV (ts.take a ++ [t] ++ ts.drop a) by simp [txV]]
      have t6 := Same.new (o := .lst (txV (ts.take a ++ [t] ++ ts.drop a))) f6
      refine ⟨_, rfl, (by show 2 ≤ sizeLine; decide), fun q mq => ?_⟩
      have t7 := Same.new (o := .tup [V.ref p6, V.int (a : Nat)]) mq
      have t35 := t3.trans (t4.trans t5)
      have all := t35.trans (t6.trans t7)
      refine k _ _ ⟨q, p6, a, _, rfl, upd_same, t7 _ _ upd_same, free (U4.trans (Upto.of t35)) (B5.same t35) f6, fails_0 hv ha ht, fun y hy => ?_, by simp; omega⟩ (U4.trans (Upto.of all)) (B5.same all)
      rcases List.mem_append.mp hy with h | h
      · rcases List.mem_append.mp h with h | h
        · exact htk y (List.mem_of_mem_take h)
        · cases List.mem_singleton.mp h
          exact tokB_ok (foreign_ok _ ht).2
      · exact htk y (List.mem_of_mem_drop h)
    refine ⟨fun σ' H' => ∃ v4 v5 v6 v7, σ' = [some (.ref b), some (.ref p), some (.int kd), some (.int (a : Nat)), v4, v5, v6, v7] ∧ Upto b H H' ∧ BagAt H' b, ?_, ?_⟩
    · refine ⟨_, rfl, rfl, _, rfl, ite2 (fun c => ?_) (fun c => ⟨_, _, _, _, rfl, U3, B3⟩)⟩
      refine ⟨_, rfl, p, _, rfl, .inl (SqL.of hp3), _, _, rfl, ⟨by decide, by decide, hsz.1, hsz.2⟩, ?_⟩
      intro D1 n1
      have s1 := Same.new (o := .lst []) n1
      refine lc_it walk_range (fun i H2 => H2 D1 = some (.lst (nV (fl (fun x => openB (ts.take x)) i))) ∧ Same H3 H2) ⟨upd_same, s1⟩ (fun _ _ _ _ => trivial) ?_ ?_
      · rintro i x H4 H5 hi ⟨hD, s2⟩ ⟨rfl, rfl⟩
        rw [txV_len] at hi
        have hi2 : i + 1 < ts.length := by omega
        refine ⟨rfl, _, rfl, _, rfl, _, rfl, p, _, rfl, SqL.of (s2 _ _ hp3), fun p3 n3 => ?_⟩
        rw [show (1 + (i : Int)) = ((i + 1 : Nat) : Int) by omega, cut_to ts (i + 1) (by omega)]
        have t3 := Same.new (o := .lst (txV (ts.take (i + 1)))) n3
        refine ⟨p3, ts.take (i + 1), rfl, SqL.of upd_same, fun t ht => asc t (List.mem_of_mem_take ht), fun H6 s6 => ⟨_, rfl, ?_⟩⟩
        have s3 := s2.trans (t3.trans s6)
        have hD6 := s6 _ _ (t3 _ _ hD)
        rw [fl_succ]
        refine ite2 (fun c => ?_) (fun c => ?_)
        · rw [if_pos c]
          refine ⟨_, rfl, _, hD6, Nat.lt_of_le_of_lt (by rw [nV, List.length_map]; exact fl_len _ _) (Nat.lt_of_le_of_lt (by omega : i ≤ 2000) (by decide)), ?_, fun a o e => by rw [upd_ne (ne_of_none e n1)]; exact s3 a o e⟩
          rw [upd_same, nV_snoc]
        · rw [if_neg c]
          exact ⟨hD6, s3⟩
      · rintro H4 ⟨hD, s2⟩
        rw [txV_len, show ((ts.length : Int) - 1).toNat = ts.length - 1 by omega] at hD
        generalize ea : fl (fun x => openB (ts.take x)) (ts.length - 1) = as at hD
        have la : as.length ≤ 2000 := by have := fl_len (fun x => openB (ts.take x)) (ts.length - 1); rw [ea] at this; omega
        refine ⟨_, rfl, sz (by simp), fun r2 nr2 => ?_⟩
        have t5 := Same.new (o := .lst []) nr2
        have s5 := s2.trans t5
        refine ⟨_, .list [], .lst (SqL.of (t5 _ _ hD)) (dpA_nV _), .lst (SqL.of upd_same) .nil, shaped_nV _, rfl, _, rfl, ?_⟩
        have eqv : PyData.eqv (.list (as.map fun n => .int (n : Nat))) (.list []) = decide (as = []) := by
          cases as <;> rfl
        rw [eqv]
        have U5 : Upto b H _ := U3.trans (Upto.of s5)
        have B5 := B3.same s5
        refine ite2 (fun c => ?_) (fun c => ⟨_, _, _, _, rfl, U5, B5⟩)
        have hne : as ≠ [] := fun e => by rw [e] at c; exact absurd c (by decide)
        have db : D1 ≠ b := bagNe B3 n1
        refine ⟨_, rfl, _, rfl, b, D1, _, rfl, B5, db, t5 _ _ hD, by rw [nV, List.length_map]; exact List.length_pos_iff.mpr hne, by rw [nV, List.length_map]; omega, fun v H6 hv6 u6 B6 => ?_⟩
        obtain ⟨x, hx, rfl⟩ := List.mem_map.mp hv6
        rw [← ea] at hx
        obtain ⟨x1, x2, x3⟩ := fl_mem hx
        have U6 := U5.trans u6
        refine ⟨_, rfl, _, rfl, _, rfl, p, _, rfl, SqL.of (U6 _ _ hpb hp), fun p1 f1 => ?_⟩
        rw [cut_to ts x (by omega)]
        have t1 := Same.new (o := .lst (txV (ts.take x))) f1
        refine ⟨_, rfl, (by show 2 ≤ sizeLine; decide), fun q mq => ?_⟩
        have t7 := Same.new (o := .tup [V.ref p1, V.int (x : Nat)]) mq
        have all := t1.trans t7
        exact k _ _ ⟨q, p1, x, _, rfl, upd_same, t7 _ _ upd_same, free U6 B6 f1, fails_1 hv (by omega) x3, fun y hy => htk y (List.mem_of_mem_take hy), by rw [List.length_take]; omega⟩ (U6.trans (Upto.of all)) (B6.same all)
    rintro σ' H4 ⟨v4, v5, v6, v7, rfl, U4, B4⟩
    refine ⟨fun σ' H' => ∃ v4 v5 v6 v7, σ' = [some (.ref b), some (.ref p), some (.int kd), some (.int (a : Nat)), v4, v5, v6, v7] ∧ Upto b H H' ∧ BagAt H' b, ?_, ?_⟩
    · refine ⟨_, rfl, rfl, _, rfl, ite2 (fun c => ?_) (fun c => ⟨_, _, _, _, rfl, U4, B4⟩)⟩
      refine ⟨_, rfl, _, rfl, b, p, ts, rfl, B4, hpb, U4 _ _ hpb hp, by omega, fun H5 u5 B5 => ?_, fun q g x t z H5 x1 x2 et hb hq hg hg0 u5 B5 => ?_⟩
      · exact ⟨_, rfl, rfl, _, rfl, iteF ⟨_, _, _, _, rfl, U4.trans u5, B5⟩⟩
      · refine ⟨_, rfl, rfl, _, rfl, ?_⟩
        refine ⟨_, rfl, ?_⟩
        refine k _ H5 ⟨q, g, x, _, rfl, hq, hg, free U4 B4 hg0, fails_2 hv x1 x2 et hb, fun y hy => ?_, by simp; omega⟩ (U4.trans u5) B5
        rcases List.mem_append.mp hy with h | h
        · rcases List.mem_append.mp h with h | h
          · exact htk y (List.mem_of_mem_take h)
          · cases List.mem_singleton.mp h
            exact ⟨hb.1, hb.2.1⟩
        · exact htk y (List.mem_of_mem_drop h)
    rintro σ' H5 ⟨v4, v5, v6, v7, rfl, U5, B5⟩
    refine ⟨by decide, fun g f0 => ?_⟩
    have t0 := Same.new (o := .lst [V.str "}", .str ")", .str ";", .str ",", .str "{", .str "init", .str "else", .str "catch", .str "class", .str "a", .str "Aa"]) f0
    have B6 := B5.same t0
    have gb := bagNe B5 f0
    refine ⟨_, rfl, _, rfl, _, rfl, b, g, _, rfl, B6, gb, upd_same, by decide, by decide, fun v H6 hv6 u6 B7 => ?_⟩
    rw [← mores_V] at hv6
    obtain ⟨t, ht, rfl⟩ := mem hv6
    have U6 : Upto b H H6 := (U5.trans (Upto.of t0)).trans u6
    refine ⟨(by show 1 ≤ sizeLine; decide), fun p3 f3 => ?_⟩
    have t3 := Same.new (o := .lst [V.str (S t)]) f3
    refine ⟨p, p3, _, _, rfl, rfl, t3 _ _ (U6 _ _ hpb hp), upd_same, Nat.le_trans (by rw [txV_len]; simp; omega : _ ≤ 2001) (by decide), fun p4 f4 => ?_⟩
    rw [show txV ts ++ [V.str (S t)] = txV (ts ++ [t]) by simp [txV]]
    have t4 := Same.new (o := .lst (txV (ts ++ [t]))) f4
    have t34 := t3.trans t4
    refine ⟨_, rfl, p, _, rfl, .inl (SqL.of (t34 _ _ (U6 _ _ hpb hp))), (by show 2 ≤ sizeLine; decide), fun q mq => ?_⟩
    rw [txV_len]
    have t5 := Same.new (o := .tup [V.ref p4, V.int (ts.length : Nat)]) mq
    have all := t34.trans t5
    refine k _ _ ⟨q, p4, ts.length, _, rfl, upd_same, t5 _ _ upd_same, free (U6.trans (Upto.of t3)) (B7.same t3) f4, fails_3 hv ht, fun y hy => ?_, by simp; omega⟩ (U6.trans (Upto.of all)) (B7.same all)
    rcases List.mem_append.mp hy with h | h
    · exact htk y h
    · cases List.mem_singleton.mp h
      exact tokB_ok (mores_ok _ ht).2
end

/-! ### 27. how deep a body's brackets go -/
theorem dpt_okK : ∀ {n : Nat} {b : List Stp}, okK n b → dpt (sgB b) = 0
  | 0, _, h => h.elim
  | n + 1, b, h => by
    obtain ⟨o, hr⟩ := run_body (n := n) h
    have := run_dep _ hr
    simp [st0] at this
    omega
theorem dpt_okS {n : Nat} {s : Stp} (h : okSt (okK n) s) : dpt (sgS s) = 0 := by
  have h1 : okK (n + 1) [s] := fun t ht => by cases List.mem_singleton.mp ht; exact h
  have := dpt_okK h1
  rwa [sgB, sgB, List.append_nil] at this
def DeepB (l : List (List Nat)) (d : Nat) : Prop := ∃ a c, l = a ++ c ∧ (d : Int) ≤ dpt a
theorem DeepB.zero (l : List (List Nat)) : DeepB l 0 := ⟨[], l, rfl, by simp [dpt]⟩
theorem DeepB.in {l l' : List (List Nat)} {d d' e : Nat} (h : DeepB l d) (x y : List (List Nat)) (el : l' = x ++ (l ++ y)) (ed : d' = d + e) (hx : (e : Int) ≤ dpt x) : DeepB l' d' := by
  obtain ⟨a, c, rfl, h⟩ := h
  subst el ed
  exact ⟨x ++ a, c ++ y, by simp, by rw [dpt_app]; omega⟩
theorem dp1_word {x : List Nat} (h : wordL x = true) : dp1 x = 0 := dp1_n (fun e => by rw [e] at h; exact absurd h (by decide +kernel)) (fun e => by rw [e] at h; exact absurd h (by decide +kernel))
theorem dps : dp1 (kw "loop") = 0 ∧ dp1 (kw "if") = 0 ∧ dp1 (kw "else") = 0 ∧ dp1 (kw "try") = 0 ∧ dp1 (kw "catch") = 0 ∧ dp1 (kw "either") = 0 ∧ dp1 (kw "or") = 0 := by decide +kernel
theorem deep_E {n : Nat} (G : ∀ b, okK n b → DeepB (sgB b) (ndB b)) : ∀ (bs : List (List Stp)) (f : Bool), (∀ b ∈ bs, okK n b) → bs ≠ [] → DeepB (sgE f bs) (ndL bs + 1)
  | [], _, _, h => absurd rfl h
  | b :: bs, f, hb, _ => by
    obtain ⟨d1, d2, d3, d4, d5, d6, d7⟩ := dps
    have h1 := hb b List.mem_cons_self
    have hf : dp1 (if f = true then kw "either" else kw "or") = 0 := by cases f <;> assumption
    rw [ndL]
    by_cases c : ndL bs ≤ ndB b
    · rw [Nat.max_eq_left c]
      exact (G b h1).in [if f = true then kw "either" else kw "or", kw "{"] (kw "}" :: sgE false bs) (by simp [sgE]) rfl (by simp [dpt, hf, dp1_o])
    · rw [Nat.max_eq_right (by omega)]
      have ne : bs ≠ [] := fun e => by rw [e] at c; exact c (Nat.zero_le _)
      exact (deep_E G bs false (fun x hx => hb x (List.mem_cons_of_mem _ hx)) ne).in ((if f = true then kw "either" else kw "or") :: kw "{" :: (sgB b ++ [kw "}"])) [] (by simp [sgE]) (Nat.add_zero _).symm (by simp [dpt, dpt_app, hf, dp1_o, dp1_c, dpt_okK h1])
theorem deep_S {n : Nat} (G : ∀ b, okK n b → DeepB (sgB b) (ndB b)) (s : Stp) (h : okSt (okK n) s) : DeepB (sgS s) (ndS s) := by
  obtain ⟨d1, d2, d3, d4, d5, d6, d7⟩ := dps
  cases s with
  | word w x => exact .zero _
  | cls w x => exact .zero _
  | bare w => exact .zero _
  | loop b => exact (G b h).in [kw "loop", kw "{"] [kw "}"] (by simp [sgS]) rfl (by simp [dpt, d1, dp1_o])
  | iff x a b =>
    obtain ⟨h0, h1, h2⟩ := h
    have hx := dp1_word h0
    rw [ndS]
    by_cases c : ndB b ≤ ndB a
    · rw [Nat.max_eq_left c]
      exact (G a h1).in [kw "if", x, kw "{"] ([kw "}", kw "else", kw "{"] ++ (sgB b ++ [kw "}"])) (by simp [sgS]) rfl (by simp [dpt, d2, hx, dp1_o])
    · rw [Nat.max_eq_right (by omega)]
      exact (G b h2).in ([kw "if", x, kw "{"] ++ (sgB a ++ [kw "}", kw "else", kw "{"])) [kw "}"] (by simp [sgS]) rfl (by simp [dpt, dpt_app, d2, d3, hx, dp1_o, dp1_c, dpt_okK h1])
  | tr a b =>
    obtain ⟨h1, h2⟩ := h
    rw [ndS]
    by_cases c : ndB b ≤ ndB a
    · rw [Nat.max_eq_left c]
      exact (G a h1).in [kw "try", kw "{"] ([kw "}", kw "catch", kw "{"] ++ (sgB b ++ [kw "}"])) (by simp [sgS]) rfl (by simp [dpt, d4, dp1_o])
    · rw [Nat.max_eq_right (by omega)]
      exact (G b h2).in ([kw "try", kw "{"] ++ (sgB a ++ [kw "}", kw "catch", kw "{"])) [kw "}"] (by simp [sgS]) rfl (by simp [dpt, dpt_app, d4, d5, dp1_o, dp1_c, dpt_okK h1])
  | ei bs =>
    rw [ndS]
    exact deep_E G bs true h.2 (fun e => by have := h.1; rw [e] at this; simp at this)
theorem deep_B {n : Nat} (G : ∀ b, okK n b → DeepB (sgB b) (ndB b)) : ∀ b : List Stp, (∀ s ∈ b, okSt (okK n) s) → DeepB (sgB b) (ndB b)
  | [], _ => .zero _
  | s :: b, h => by
    have h1 := h s List.mem_cons_self
    rw [ndB, sgB]
    by_cases c : ndB b ≤ ndS s
    · rw [Nat.max_eq_left c]
      exact (deep_S G s h1).in [] (sgB b) (by simp) (Nat.add_zero _).symm (by simp [dpt])
    · rw [Nat.max_eq_right (by omega)]
      exact (deep_B G b fun x hx => h x (List.mem_cons_of_mem _ hx)).in (sgS s) [] (by simp) (Nat.add_zero _).symm (by simp [dpt_okS h1])
theorem deepN : ∀ n b, okK n b → DeepB (sgB b) (ndB b)
  | 0, _, h => h.elim
  | n + 1, b, h => deep_B (deepN n) b h
/-- a tower of seven: where it is too deep, and that it fails there -/
theorem fails_tower {b : List Stp} (hok : okK 8 b) (hd : 7 ≤ ndB b) : ∃ x : Nat, deepF 0 0 (sgB b) = x ∧ x < (sgB b).length ∧ Fails (sgB b) x := by
  obtain ⟨o, hr⟩ := run_body (n := 7) hok
  rcases deepF_spec (sgB b) 0 0 (by decide) with ⟨_, h⟩ | ⟨x, e, hx, h7, h6⟩
  · obtain ⟨a, c, ea, hda⟩ := deepN 8 b hok
    have := h a.length
    rw [ea, List.take_left] at this
    omega
  · exact ⟨x, by rw [e]; omega, hx, fails_deep hr hx (by omega) fun y hy => by have := h6 y hy; omega⟩

/-! ### 28. the law -/
def spLaw (K : PySem.W.Frag) : Sp := fun vs H Q _ => ∃ (a : Addr) (ns : List Int), vs = [.ref a] ∧ SqL K H a (ns.map V.int) ∧ ns.length ≤ 63 ∧ ∀ H', Q (.bl true) H'
theorem strOr_S {K : PySem.W.Frag} {H : Hp} {c : List Nat} (h : c.length ≤ 100000) : StrOr K H (.str (S c)) (some c) := ⟨_, .base (.str _), (kit_ty (show kitB "str" "str" = some true by decide +kernel)), fun a e => by cases e; exact ⟨rfl, h⟩⟩
theorem same_two {b r : Addr} {H H1 H2 : Hp} (s : Same H H1) (hb : H b = none) (hr : H r = none) (u : Up2 b r H1 H2) : Same H H2 := fun c o e => u c o (ne_of_none e hb) (ne_of_none e hr) (s c o e)
theorem WordsAt.stayU {K : PySem.W.Frag} {H H' : Hp} {b w0 : Addr} (h : WordsAt K H b w0) (hb : BagAt H b) (u : Upto b H H') : WordsAt K H' b w0 := by
  obtain ⟨p0, p1, p2, n0, n1, n2, hT, e0, e1, e2, h0, h1, h2, o⟩ := h
  exact ⟨p0, p1, p2, n0, n1, n2, (TStay.bag hb u).sq hT, e0, e1, e2, u _ _ e0 h0, u _ _ e1 h1, u _ _ e2 h2, o⟩
theorem iteNe {c A B : Prop} [Decidable c] (hc : c) (h : B) : if (!decide c) = true then A else B := by
  rw [decide_eq_true hc]
  exact iteF h
theorem Fails.steps {z : List (List Nat)} {x : Nat} (h : Fails z x) {a : List Nat} {us : List Tok} (sp : SpP 0 a us) (e : txs us = z) : pSteps (some a) = .error (posOf a.length (us.drop x)) := by
  rw [pSteps_some rfl, toks_sp sp]
  exact h.2 us _ e
theorem okSt_up {p p' : List Stp → Prop} (h : ∀ b, p b → p' b) (s : Stp) (hs : okSt p s) : okSt p' s := by
  cases s with
  | word w x => exact hs
  | cls w x => exact hs
  | bare w => exact hs
  | loop b => exact h _ hs
  | iff x a b => exact ⟨hs.1, h _ hs.2.1, h _ hs.2.2⟩
  | tr a b => exact ⟨h _ hs.1, h _ hs.2⟩
  | ei bs => exact ⟨hs.1, fun b hb => h _ (hs.2 b hb)⟩
theorem okK_up : ∀ n b, okK n b → okK (n + 1) b
  | 0, _, h => h.elim
  | n + 1, _, h => fun s hs => okSt_up (okK_up n) s (h s hs)
theorem asc_dl {M : Nat} {md : Md} {k : List Fr} {t : List Nat} {q : Md × List Fr} (h : dl M md k t = some q) : Asc t := by
  have lw : ∀ {t : List Nat}, (t ≠ [] ∧ ∀ x ∈ t, isL x = true) → Asc t := fun h c hc => isL_lt (h.2 c hc)
  have lk : ∀ {t : List Nat} {L : List (List Nat)}, (L.all fun t => t.all fun c => decide (c < 128)) = true → t ∈ L → Asc t := fun h ht c hc => of_decide_eq_true (List.all_eq_true.mp (List.all_eq_true.mp h _ ht) c hc)
  have w1 : ∀ {c : Bool} {q' : Md × List Fr}, (if c = true then some q' else none) = some q → c = true := by
    intro c q' h
    cases c with
    | true => rfl
    | false => cases h
  have isK : ∀ {x : Str}, ((kw x).all fun c => decide (c < 128)) = true → isW t x = true → Asc t := fun {x} h e => by
    rw [isW_iff.mp e]
    exact fun c hc => of_decide_eq_true (List.all_eq_true.mp h c hc)
  cases md with
  | bd o =>
    simp only [dl] at h
    split at h
    · rename_i hs
      exact lw (with_tok hs)
    · split at h
      · rename_i ho
        rw [Bool.and_eq_true] at ho
        exact isK (x := "or") (by decide +kernel) ho.2
      · split at h
        · rename_i ho
          exact isK (x := "}") (by decide +kernel) ho
        · cases h
  | nw => exact lw (word_tok (w1 h))
  | ni => exact lw (word_tok (w1 h))
  | nc => exact lw (class_tok (w1 h))
  | sm => exact isK (x := ";") (by decide +kernel) (w1 h)
  | op f =>
    have := w1 h
    rw [Bool.and_eq_true] at this
    exact isK (x := "{") (by decide +kernel) this.1
  | ael => exact isK (x := "else") (by decide +kernel) (w1 h)
  | aca => exact isK (x := "catch") (by decide +kernel) (w1 h)
  | aor => exact isK (x := "or") (by decide +kernel) (w1 h)
theorem asc_run {M : Nat} : ∀ (p : List (List Nat)) {q z : Md × List Fr}, run M q p = some z → ∀ t ∈ p, Asc t
  | [], _, _, _, t, h => absurd h (List.not_mem_nil)
  | x :: p, q, z, h, t, ht => by
    obtain ⟨q', h1, h2⟩ := run_cons h
    rcases List.mem_cons.mp ht with rfl | ht
    · exact asc_dl h1
    · exact asc_run p h2 t ht
theorem plV_at {us : List Tok} {x n : Nat} (h : x ≤ us.length) : (plV us ++ [V.int (n : Nat)])[x]? = some (.int (posOf n (us.drop x) : Nat)) := by
  by_cases c : x < us.length
  · rw [List.getElem?_append_left (by simp [plV]; exact c), List.drop_eq_getElem_cons c]
    simp [plV, c, posOf]
  · have : x = us.length := by omega
    subst this
    rw [List.getElem?_append_right (by simp [plV]), List.drop_length]
    simp [plV, posOf]
theorem plV_lt {us : List Tok} {x n : Nat} (h : x < us.length) : (plV us)[x]? = some (.int (posOf n (us.drop x) : Nat)) := by
  rw [List.drop_eq_getElem_cons h]
  simp [plV, h, posOf]
section
variable {P : Program} {w : World} {K : PySem.W.Frag} {mg : Str → Option Value} {base : Heap} {Z : Addrs}
theorem ok_law {f : Addr} {fd : FuncData} (F : Fun K "law" "law" s_law f fd) (T : Txt K mg Z) : FnOk P w K mg base CX0 60 f fd ["script"] (spLaw K) := by
  have c__law_at : Cal P w K mg base 41 "_law_at" (spAt K) [] := c__law_at T
  have c__law_bag : Cal P w K mg base 1 "_law_bag" (spBag K) [] := c__law_bag T
  have c__law_draw : Cal P w K mg base 1 "_law_draw" spDraw [] := c__law_draw T
  have c__law_start : Cal P w K mg base 4 "_law_start" (spStart K) [] := c__law_start T
  have c__law_body : Cal P w K mg base 16 "_law_body" (spLBody K 7) [] := law_bodies T 7
  have c__law_tower : Cal P w K mg base 3 "_law_tower" (spTower K) [] := c__law_tower T
  have c__law_spread : Cal P w K mg base 3 "_law_spread" spSpread [] := c__law_spread T
  have c__law_signs : Cal P w K mg base 16 "_law_signs" (spSg K (okK 7)) [] := (law_signs T 7).2
  have c__law_spoiled : Cal P w K mg base 6 "_law_spoiled" spSpoiled [] := c__law_spoiled T
  have c__law_deep : Cal P w K mg base 3 "_law_deep" spDeep [] := c__law_deep T
  refine F.ok sc_law (fun vs H Q E h => ?_) (fun cdv A outer s H vs Q E hr h => ?_)
  · obtain ⟨a, ns, rfl, _⟩ := h
    rfl
  · obtain ⟨a, ns, rfl, hS, hlen, k⟩ := h
    refine ⟨_, (pss_cons (ps_for PassesOwn.never rfl (pi_list (pe_lst (pa_cons pe_non (pa_cons pe_bl (pa_cons pe_int (pa_cons (pe_un un_neg pe_int) (pa_cons (pe_tup pa_nil) (pa_cons (pe_tup (pa_cons pe_str pa_nil)) (pa_cons (pe_lst (pa_cons pe_str pa_nil)) (pa_cons (pe_tup (pa_cons (pe_tup (pa_cons pe_str pa_nil)) pa_nil)) pa_nil)))))))))) (pg_name (i := 1) sc_law.nd rfl (by first | exact Or.inl rfl | exact Or.inr rfl)) (pss_one (ps_if (pt_cmpR op_ne (pe_c c__law_at hr (by omega) rfl (pa_cons (pv 1) pa_nil)) (pe_un un_neg pe_int) (nomark _)) (pss_one (ps_ret pe_bl)) pss_nil)))
      (pss_cons (ps_for PassesOwn.never rfl (pi_range1 rfl T.b_range (pa_cons (pe_callB (call_max2 rfl) (by rfl) T.b_max (by decide +kernel) (pa_cons pe_int (pa_cons (pe_callB (call_min2 rfl) (by rfl) T.b_min (by decide +kernel) (pa_cons pe_int (pa_cons (pe_callB call_len_seq (by rfl) T.b_len (by decide +kernel) (pa_cons (pv 0) pa_nil)) pa_nil))) pa_nil))) pa_nil)) (pg_name (i := 2) sc_law.nd rfl (by first | exact Or.inl rfl | exact Or.inr rfl)) (pss_cons (ps_set (i := 3) sc_law.nd rfl (by first | exact Or.inl rfl | exact Or.inr rfl) (pe_c c__law_bag hr (by omega) rfl (pa_cons (pv 0) (pa_cons (pv 2) pa_nil))))
      (pss_cons (ps_par (i := 4) (j := 5) (by rfl) sc_law.nd rfl rfl (by decide) rfl rfl (pa_cons (pe_c c__law_start hr (by omega) rfl (pa_cons (pv 3) pa_nil)) (pa_cons (pe_c c__law_draw hr (by omega) rfl (pa_cons (pv 3) (pa_cons pe_int pa_nil))) pa_nil)) (by rfl))
      (pss_cons (ps_set (i := 6) sc_law.nd rfl (by first | exact Or.inl rfl | exact Or.inr rfl) (pe_c c__law_tower hr (by omega) rfl (pa_cons (pv 3) (pa_cons (pe_ix ix_tup (pv 4) pe_int (fun _ _ => rfl)) (pa_cons (pe_c c__law_body hr (by omega) rfl (pa_cons (pv 3) (pa_cons (pv 4) (pa_cons (pe_lst (pa_cons pe_int pa_nil)) (pa_cons (pe_op op_sub pe_int (pv 5)) pa_nil))))) (pa_cons (pv 5) pa_nil))))))
      (pss_cons (ps_asg (pe_c c__law_spoiled hr (by omega) rfl (pa_cons (pv 3) (pa_cons (pe_c c__law_signs hr (by omega) rfl (pa_cons (pv 6) pa_nil)) pa_nil))) (pg_tup (by rfl) (pgs_cons (pg_name (i := 7) sc_law.nd rfl (by first | exact Or.inl rfl | exact Or.inr rfl)) (pgs_cons (pg_name (i := 8) sc_law.nd rfl (by first | exact Or.inl rfl | exact Or.inr rfl)) pgs_nil))))
      (pss_cons (ps_asg (pe_c c__law_spread hr (by omega) rfl (pa_cons (pv 3) (pa_cons (pv 7) pa_nil))) (pg_tup (by rfl) (pgs_cons (pg_name (i := 9) sc_law.nd rfl (by first | exact Or.inl rfl | exact Or.inr rfl)) (pgs_cons (pg_name (i := 10) sc_law.nd rfl (by first | exact Or.inl rfl | exact Or.inr rfl)) pgs_nil))))
      (pss_cons (ps_if (pt_cmpR op_ne (pe_c c__law_at hr (by omega) rfl (pa_cons (pv 9) pa_nil)) (pe_ix ix_list (pe_op op_cat (pv 10) (pe_lst (pa_cons (pe_callB call_len_str (by rfl) T.b_len (by decide +kernel) (pa_cons (pv 9) pa_nil)) pa_nil))) (pv 8) (fun _ _ => rfl)) (nomark _)) (pss_one (ps_ret pe_bl)) pss_nil)
      (pss_cons (ps_set (i := 11) sc_law.nd rfl (by first | exact Or.inl rfl | exact Or.inr rfl) (pe_c c__law_signs hr (by omega) rfl (pa_cons (pe_c c__law_tower hr (by omega) rfl (pa_cons (pv 3) (pa_cons (pe_ix ix_tup (pv 4) pe_int (fun _ _ => rfl)) (pa_cons (pe_tup (pa_cons (pe_tup (pa_cons pe_str pa_nil)) pa_nil)) (pa_cons pe_int pa_nil))))) pa_nil)))
      (pss_cons (ps_asg (pe_c c__law_spread hr (by omega) rfl (pa_cons (pv 3) (pa_cons (pv 11) pa_nil))) (pg_tup (by rfl) (pgs_cons (pg_name (i := 9) sc_law.nd rfl (by first | exact Or.inl rfl | exact Or.inr rfl)) (pgs_cons (pg_name (i := 10) sc_law.nd rfl (by first | exact Or.inl rfl | exact Or.inr rfl)) pgs_nil))))
      (pss_one (ps_if (pt_cmpR op_ne (pe_c c__law_at hr (by omega) rfl (pa_cons (pv 9) pa_nil)) (pe_ix ix_list (pv 10) (pe_c c__law_deep hr (by omega) rfl (pa_cons (pv 11) pa_nil)) (fun _ _ => rfl)) (nomark _)) (pss_one (ps_ret pe_bl)) pss_nil)))))))))))
      (pss_one (ps_ret pe_bl)))), ?_⟩
    have strNo : ∀ {H : Hp} {v : V} {t : Value}, TyX K H v t → PySem.W.kitOne K t (.type "str") = some false → StrOr K H v none := fun ty ki => ⟨_, ty, ki, fun a e => by cases e⟩
    -- for value in [..]
    refine ⟨_, rfl, sz (by simp), fun e1 f1 => ⟨sz (by simp), fun e2 f2 => ⟨sz (by simp), fun e3 f3 => ⟨sz (by simp), fun e4 f4 => ⟨sz (by simp), fun e5 f5 => ⟨sz (by simp), fun e6 f6 => ?_⟩⟩⟩⟩⟩⟩
    have s1 := Same.new (o := .tup []) f1
    have s2 := Same.new (o := .tup [V.str "fail;"]) f2
    have s3 := Same.new (o := .lst [V.str "fail;"]) f3
    have s4 := Same.new (o := .tup [V.str "fail"]) f4
    have s5 := Same.new (o := .tup [V.ref e4]) f5
    have s6 := Same.new (o := .lst [V.non, .bl true, .int 0, .int (-1), .ref e1, .ref e2, .ref e3, .ref e5]) f6
    have s56 := s5.trans s6
    have s36 := s3.trans (s4.trans s56)
    have hv : ∀ v ∈ [V.non, .bl true, .int 0, .int (-1), .ref e1, .ref e2, .ref e3, .ref e5], StrOr K _ v none := fun v hv => by
      simp only [List.mem_cons, List.not_mem_nil, or_false] at hv
      rcases hv with rfl | rfl | rfl | rfl | rfl | rfl | rfl | rfl
      · exact strNo (.base .non) (kit_ty (show kitB "NoneType" "str" = some false by decide +kernel))
      · exact strNo (.base (.bl _)) (kit_ty (show kitB "bool" "str" = some false by decide +kernel))
      · exact strNo (.base (.int _)) (kit_ty (show kitB "int" "str" = some false by decide +kernel))
      · exact strNo (.base (.int _)) (kit_ty (show kitB "int" "str" = some false by decide +kernel))
      · exact strNo (.base (.tup ((s2.trans s36) _ _ upd_same))) (kit_ty (show kitB "tuple" "str" = some false by decide +kernel))
      · exact strNo (.base (.tup (s36 _ _ upd_same))) (kit_ty (show kitB "tuple" "str" = some false by decide +kernel))
      · exact strNo (.base (.lst ((s4.trans s56) _ _ upd_same))) (kit_ty (show kitB "list" "str" = some false by decide +kernel))
      · exact strNo (.base (.tup (s6 _ _ upd_same))) (kit_ty (show kitB "tuple" "str" = some false by decide +kernel))
    have sA := s1.trans (s2.trans s36)
    refine ⟨e6, rfl, ⟨_, SqL.of upd_same⟩, ?_⟩
    refine for_it walk_list (fun i σ H2 => (∃ v1, σ = [some (.ref a), v1, none, none, none, none, none, none, none, none, none, none]) ∧ Same _ H2) ⟨⟨_, rfl⟩, fun _ _ e => e⟩ (fun _ _ _ _ h => SqL.of (h.2 _ _ upd_same)) ?_ ?_
    · rintro i x σ H2 H3 hi ⟨⟨v1, rfl⟩, S2⟩ ⟨rfl, hx⟩
      refine ⟨_, rfl, x, none, rfl, (hv x (List.mem_of_getElem? hx)).mono S2, fun d e => (by cases e), fun p e H4 S4 => ?_⟩
      cases e
      exact ⟨_, rfl, rfl, _, rfl, iteNe rfl ⟨⟨_, rfl⟩, S2.trans S4⟩⟩
    rintro σ H2 ⟨⟨v1, rfl⟩, S2⟩
    have S0 := sA.trans S2
    refine ⟨_, rfl, a, _, rfl, .inl (S0.seq hS), _, _, rfl, _, _, rfl, _, rfl, (by simp only [List.length_map]; split <;> split <;> omega), (by simp only [List.length_map]; split <;> split <;> omega), ?_⟩
    refine for_it walk_range (fun i σ H4 => (∃ v1 v2 v3 v4 v5 v6 v7 v8 v9 v10 v11, σ = [some (.ref a), v1, v2, v3, v4, v5, v6, v7, v8, v9, v10, v11]) ∧ Same H H4) ⟨⟨_, _, _, _, _, _, _, _, _, _, _, rfl⟩, S0⟩ (fun _ _ _ _ _ => trivial) ?_ ?_
    · rintro i x σ H3 H4 hi ⟨⟨v1, v2, v3, v4, v5, v6, v7, v8, v9, v10, v11, rfl⟩, S4⟩ ⟨rfl, rfl⟩
      refine ⟨_, rfl, _, rfl, a, ns, _, rfl, S4.seq hS, by omega, fun b H5 nb e5 B5 => ?_⟩
      have nb0 : H b = none := S4.free nb
      refine ⟨_, rfl, b, rfl, B5, fun w0 H6 nw hW _ u6 B6 => ⟨_, rfl, b, 7, rfl, B6, by decide, lt9000 (by decide) (by decide), fun mm H7 m0 m1 u7 B7 => ⟨_, _, rfl, ?_⟩⟩⟩
      obtain ⟨m, rfl⟩ : ∃ m : Nat, mm = (m : Int) := ⟨mm.toNat, by omega⟩
      have hm : m ≤ 6 := by omega
      have hW7 := hW.stayU B6 u7
      have SA : Same H H7 := u7.same nb0 (u6.same nb0 (S4.trans e5))
      obtain ⟨p0, _, _, n0, _, _, hT, g0, _, _, h0, _, _, o0, _, _, l0, _, _⟩ := id hW7
      refine ⟨_, rfl, _, rfl, w0, _, 0, _, rfl, rfl, hT, rfl, _, rfl, _, rfl, sz (by simp), fun r nr => ?_⟩
      have tr := Same.new (o := .lst [V.int 30]) nr
      have rb := bagNe B7 nr
      have R8 : RoomAt (upd H7 r (.lst [V.int 30])) r 30 := upd_same
      have rp : p0 ≠ r := ne_of_none h0 nr
      refine ⟨_, rfl, _, _, rfl, rfl, b, w0, r, 30, 6 - m, (by show [V.ref b, V.ref w0, V.ref r, V.int (6 - (m : Int))] = _; rw [show (6 : Int) - (m : Int) = ((6 - m : Nat) : Int) by omega]), by omega, B7.same tr, rb, R8, hW7.stayU B7 (Upto.of tr), fun v0 bd0 R' H9 ok0 D0 wt0 R9 u9 B9 => ?_⟩
      have nr0 : H r = none := SA.free nr
      have SC : Same H H9 := same_two (SA.trans tr) nb0 nr0 u9
      refine ⟨_, rfl, b, p0, v0, m, 6 - m, bd0, n0, rfl, by omega, B9, g0, u9 _ _ g0 rp (tr _ _ h0), o0, l0, ok0, D0, fun v bd H10 okb Db wtb _ u10 B10 => ?_⟩
      have okb : okK 7 bd := by rwa [show 6 - m + 1 + m = 7 by omega] at okb
      obtain ⟨tks, tkl, _⟩ := goodN 7 bd okb
      have SD : Same H H10 := u10.same nb0 SC
      have hval := valid_body okb
      have hasc : ∀ t ∈ sgB bd, Asc t := by
        obtain ⟨z, hr, _⟩ := hval
        exact asc_run _ hr
      -- tokens, wrong
      refine ⟨_, rfl, _, rfl, v, bd, rfl, Db, okK_up 7 bd okb, by omega, fun g H11 ng e11 hg => ⟨b, g, _, rfl, B10.same e11, bagNe B10 ng, hg, by omega, hasc, fun t ht => ⟨(tks t ht).1, by have := (tks t ht).2; omega⟩, hval, fun vR H12 hs u12 B12 => ?_⟩⟩
      obtain ⟨q, l, x, z, rfl, hq, hl, nl, hf, hz, hzl⟩ := hs
      have lb : l ≠ b := bagNe (B10.same e11) nl
      refine ⟨q, _, rfl, SqT.of hq, rfl, _, _, rfl, _, _, rfl, rfl, ?_⟩
      have SF : Same H H12 := u12.same nb0 (SD.trans e11)
      -- text, places
      refine ⟨_, rfl, _, rfl, b, l, z, rfl, B12, lb, hl, hz, hzl, fun ta us q2 x2 H13 sp hus lta hq2 hx2 nx2 u13 B13 => ⟨q2, _, rfl, SqT.of hq2, rfl, _, _, rfl, _, _, rfl, rfl, ?_⟩⟩
      have hst := hf.steps sp hus
      have hlu : us.length = z.length := by rw [← hus]; simp [txs]
      have hta : ta.length ≤ 26003 := by omega
      have SG : Same H H13 := u13.same nb0 SF
      refine ⟨_, rfl, _, some ta, rfl, strOr_S (by omega), fun d e => (by rw [hst] at e; cases e), fun p e H14 S14 => ?_⟩
      rw [hst] at e
      cases e
      have hx14 := S14 _ _ hx2
      have lplV : (plV us).length ≤ 2000 := by simp [plV]; omega
      refine ⟨_, rfl, _, rfl, S ta, rfl, szl (by omega), (by show 1 ≤ sizeLine; decide), fun p3 n3 => ?_⟩
      have t3 := Same.new (o := .lst [V.int (S ta).length]) n3
      refine ⟨x2, p3, _, _, rfl, rfl, t3 _ _ hx14, upd_same, Nat.le_trans (by simp; omega : _ ≤ 2001) (by decide), fun p4 n4 => ?_⟩
      have t4 := Same.new (o := .lst (plV us ++ [V.int (S ta).length])) n4
      have t34 := t3.trans t4
      refine ⟨_, rfl, p4, _, (x : Int), _, rfl, rfl, SqL.of upd_same, (by rw [S_len]; exact atI_nat (plV_at (by have := hf.1; omega))), rfl, _, rfl, iteNe rfl ?_⟩
      have B15 := (B13.same S14).same t34
      have SI : Same H _ := SG.trans (S14.trans t34)
      obtain ⟨bx, hbx⟩ := (B7.same tr).lst
      have TS := (((((TStay.of tr).trans (TStay.two hbx R8 u9)).trans (TStay.bag B9 u10)).trans (TStay.of e11)).trans (TStay.bag (B10.same e11) u12)).trans ((TStay.bag B12 u13).trans (TStay.of (S14.trans t34)))
      have hT15 := TS.sq hT
      have h015 := t34 _ _ (S14 _ _ (u13 _ _ g0 (u12 _ _ g0 (e11 _ _ (u10 _ _ g0 (u9 _ _ g0 rp (tr _ _ h0)))))))
      -- deep
      refine ⟨_, rfl, _, rfl, w0, _, 0, _, rfl, rfl, hT15, rfl, sz (by simp), fun y1 z1 => ⟨sz (by simp), fun y2 z2 => ?_⟩⟩
      have t5 := Same.new (o := .tup [V.str "fail"]) z1
      have t6 := Same.new (o := .tup [V.ref y1]) z2
      have t56 := t5.trans t6
      have Df : Dt K _ (.ref y2) (.tuple (datB failB)) := .tup (SqT.of upd_same) (.cons (.tup (SqT.of (t6 _ _ upd_same)) (.cons (.str _) .nil)) .nil)
      have B16 := B15.same t56
      refine ⟨b, p0, .ref y2, 7, 0, failB, n0, rfl, by decide, B16, g0, t56 _ _ h015, o0, l0, fail_ok 0, Df, fun v' bd2 H17 okd Dd wtd ndd u17 B17 => ?_⟩
      have okd : okK 8 bd2 := okd
      obtain ⟨tks2, tkl2, _⟩ := goodN 8 bd2 okd
      have wf : wtB failB = 1 := by simp [failB, wtB, wtS]
      obtain ⟨x3, hx3, hx3l, hf3⟩ := fails_tower okd (by omega)
      have SJ : Same H H17 := u17.same nb0 (SI.trans t56)
      refine ⟨v', bd2, rfl, Dd, okd, by omega, fun g2 H18 ng2 e18 hg2 => ?_⟩
      have B18 := B17.same e18
      have g2b : g2 ≠ b := bagNe B17 ng2
      refine ⟨_, rfl, _, rfl, b, g2, sgB bd2, rfl, B18, g2b, hg2, fun t ht => ⟨(tks2 t ht).1, by have := (tks2 t ht).2; omega⟩, by omega, fun ta2 us2 q3 x4 H19 sp2 hus2 lta2 hq3 hx4 nx4 u19 B19 => ⟨q3, _, rfl, SqT.of hq3, rfl, _, _, rfl, _, _, rfl, rfl, ?_⟩⟩
      have hst2 := hf3.steps sp2 hus2
      have hlu2 : us2.length = (sgB bd2).length := by rw [← hus2]; simp [txs]
      have SK : Same H H19 := u19.same nb0 (SJ.trans e18)
      refine ⟨_, rfl, _, some ta2, rfl, strOr_S (by omega), fun d e => (by rw [hst2] at e; cases e), fun p e H20 S20 => ?_⟩
      rw [hst2] at e
      cases e
      refine ⟨_, rfl, _, rfl, g2, sgB bd2, rfl, S20 _ _ (u19 _ _ g2b hg2), fun H21 S21 => ?_⟩
      rw [hx3]
      refine ⟨x4, _, (x3 : Int), _, rfl, rfl, SqL.of (S21 _ _ (S20 _ _ hx4)), atI_nat (plV_lt (by omega)), rfl, _, rfl, iteNe rfl ?_⟩
      exact ⟨⟨_, _, _, _, _, _, _, _, _, _, _, rfl⟩, SK.trans (S20.trans S21)⟩
    · rintro σ H4 ⟨⟨v1, v2, v3, v4, v5, v6, v7, v8, v9, v10, v11, rfl⟩, S4⟩
      exact k H4
end

theorem all_mk {l : PySem.W.OpenLaw} {w : World} {K : PySem.W.Frag} {h : Heap} {mg : Str → Option Value} {fa f4 : Addr} (X : K.In h) (G : h.Ns mainGlobals mg) (hfa : mg "law" = some (.ref fa))
    {tk_BLANKS : PySem.Tok}
    {tk_CAPITAL : PySem.Tok}
    {tk_DEEPEST : PySem.Tok}
    {tk_LONGEST : PySem.Tok}
    {C_RESERVED : Addr} {od_RESERVED : Option Addr} {n_RESERVED : Nat} {sl_RESERVED : Array (Option Value)} {its_RESERVED : Array Value}
    {tk_SMALL : PySem.Tok}
    {C_STEP_WORDS : Addr} {od_STEP_WORDS : Option Addr} {n_STEP_WORDS : Nat} {sl_STEP_WORDS : Array (Option Value)} {its_STEP_WORDS : Array Value}
    {C_WITH_CLASS : Addr} {od_WITH_CLASS : Option Addr} {n_WITH_CLASS : Nat} {sl_WITH_CLASS : Array (Option Value)} {its_WITH_CLASS : Array Value}
    {C_WITH_WORD : Addr} {od_WITH_WORD : Option Addr} {n_WITH_WORD : Nat} {sl_WITH_WORD : Array (Option Value)} {its_WITH_WORD : Array Value}
    {C_EarlyError : Addr}
    {C_BadText : Addr}
    {nm_BadText q_BadText : Str} {N_BadText : Addr} {bs_BadText : List Value} {sn_BadText : List Str} {sub_BadText : List Value} {ab_BadText : Bool} {col_BadText : Option Bool} {dd_BadText : Option Addr} {m0_BadText m1_BadText m2_BadText m3_BadText m5_BadText : Option Value}
    {u0_BadText : Addr}
    {C_TooMany : Addr}
    {nm_TooMany q_TooMany : Str} {N_TooMany : Addr} {bs_TooMany : List Value} {sn_TooMany : List Str} {sub_TooMany : List Value} {ab_TooMany : Bool} {col_TooMany : Option Bool} {dd_TooMany : Option Addr} {m0_TooMany m1_TooMany m2_TooMany m3_TooMany m5_TooMany : Option Value}
    {u0_TooMany : Addr}
    {C_Reader : Addr}
    {f_BadText___init__ : Addr} {od_BadText___init__ an_BadText___init__ : Option Addr} {sl_BadText___init__ : Array (Option Value)} {oc_BadText___init__ kV_BadText___init__ dc_BadText___init__ pm_BadText___init__ cd_BadText___init__ ct_BadText___init__ : Value}
    {f_TooMany___init__ : Addr} {od_TooMany___init__ an_TooMany___init__ : Option Addr} {sl_TooMany___init__ : Array (Option Value)} {oc_TooMany___init__ kV_TooMany___init__ dc_TooMany___init__ pm_TooMany___init__ cd_TooMany___init__ ct_TooMany___init__ : Value}
    {f_tokens_of : Addr} {od_tokens_of an_tokens_of : Option Addr} {sl_tokens_of : Array (Option Value)} {oc_tokens_of kV_tokens_of dc_tokens_of pm_tokens_of cd_tokens_of ct_tokens_of : Value}
    {f_token_end : Addr} {od_token_end an_token_end : Option Addr} {sl_token_end : Array (Option Value)} {oc_token_end kV_token_end dc_token_end pm_token_end cd_token_end ct_token_end : Value}
    {f_is_letter : Addr} {od_is_letter an_is_letter : Option Addr} {sl_is_letter : Array (Option Value)} {oc_is_letter kV_is_letter dc_is_letter pm_is_letter cd_is_letter ct_is_letter : Value}
    {f_fits_word : Addr} {od_fits_word an_fits_word : Option Addr} {sl_fits_word : Array (Option Value)} {oc_fits_word kV_fits_word dc_fits_word pm_fits_word cd_fits_word ct_fits_word : Value}
    {f_fits_class : Addr} {od_fits_class an_fits_class : Option Addr} {sl_fits_class : Array (Option Value)} {oc_fits_class kV_fits_class dc_fits_class pm_fits_class cd_fits_class ct_fits_class : Value}
    {f_all_small : Addr} {od_all_small an_all_small : Option Addr} {sl_all_small : Array (Option Value)} {oc_all_small kV_all_small dc_all_small pm_all_small cd_all_small ct_all_small : Value}
    {f_Reader___init__ : Addr} {od_Reader___init__ an_Reader___init__ : Option Addr} {sl_Reader___init__ : Array (Option Value)} {oc_Reader___init__ kV_Reader___init__ dc_Reader___init__ pm_Reader___init__ cd_Reader___init__ ct_Reader___init__ : Value}
    {f_Reader_token : Addr} {od_Reader_token an_Reader_token : Option Addr} {sl_Reader_token : Array (Option Value)} {oc_Reader_token kV_Reader_token dc_Reader_token pm_Reader_token cd_Reader_token ct_Reader_token : Value}
    {f_Reader_position : Addr} {od_Reader_position an_Reader_position : Option Addr} {sl_Reader_position : Array (Option Value)} {oc_Reader_position kV_Reader_position dc_Reader_position pm_Reader_position cd_Reader_position ct_Reader_position : Value}
    {f_Reader_advance : Addr} {od_Reader_advance an_Reader_advance : Option Addr} {sl_Reader_advance : Array (Option Value)} {oc_Reader_advance kV_Reader_advance dc_Reader_advance pm_Reader_advance cd_Reader_advance ct_Reader_advance : Value}
    {f_Reader_take : Addr} {od_Reader_take an_Reader_take : Option Addr} {sl_Reader_take : Array (Option Value)} {oc_Reader_take kV_Reader_take dc_Reader_take pm_Reader_take cd_Reader_take ct_Reader_take : Value}
    {f_Reader_take_word : Addr} {od_Reader_take_word an_Reader_take_word : Option Addr} {sl_Reader_take_word : Array (Option Value)} {oc_Reader_take_word kV_Reader_take_word dc_Reader_take_word pm_Reader_take_word cd_Reader_take_word ct_Reader_take_word : Value}
    {f_Reader_take_class : Addr} {od_Reader_take_class an_Reader_take_class : Option Addr} {sl_Reader_take_class : Array (Option Value)} {oc_Reader_take_class kV_Reader_take_class dc_Reader_take_class pm_Reader_take_class cd_Reader_take_class ct_Reader_take_class : Value}
    {f_Reader_finish : Addr} {od_Reader_finish an_Reader_finish : Option Addr} {sl_Reader_finish : Array (Option Value)} {oc_Reader_finish kV_Reader_finish dc_Reader_finish pm_Reader_finish cd_Reader_finish ct_Reader_finish : Value}
    {f_read_body : Addr} {od_read_body an_read_body : Option Addr} {sl_read_body : Array (Option Value)} {oc_read_body kV_read_body dc_read_body pm_read_body cd_read_body ct_read_body : Value}
    {f_read_step : Addr} {od_read_step an_read_step : Option Addr} {sl_read_step : Array (Option Value)} {oc_read_step kV_read_step dc_read_step pm_read_step cd_read_step ct_read_step : Value}
    {f_read_if : Addr} {od_read_if an_read_if : Option Addr} {sl_read_if : Array (Option Value)} {oc_read_if kV_read_if dc_read_if pm_read_if cd_read_if ct_read_if : Value}
    {f_read_try : Addr} {od_read_try an_read_try : Option Addr} {sl_read_try : Array (Option Value)} {oc_read_try kV_read_try dc_read_try pm_read_try cd_read_try ct_read_try : Value}
    {f_read_either : Addr} {od_read_either an_read_either : Option Addr} {sl_read_either : Array (Option Value)} {oc_read_either kV_read_either dc_read_either pm_read_either cd_read_either ct_read_either : Value}
    {f_read_block : Addr} {od_read_block an_read_block : Option Addr} {sl_read_block : Array (Option Value)} {oc_read_block kV_read_block dc_read_block pm_read_block cd_read_block ct_read_block : Value}
    {f_read_braces : Addr} {od_read_braces an_read_braces : Option Addr} {sl_read_braces : Array (Option Value)} {oc_read_braces kV_read_braces dc_read_braces pm_read_braces cd_read_braces ct_read_braces : Value}
    {f_read_steps : Addr} {od_read_steps an_read_steps : Option Addr} {sl_read_steps : Array (Option Value)} {oc_read_steps kV_read_steps dc_read_steps pm_read_steps cd_read_steps ct_read_steps : Value}
    {f__law_bag : Addr} {od__law_bag an__law_bag : Option Addr} {sl__law_bag : Array (Option Value)} {oc__law_bag kV__law_bag dc__law_bag pm__law_bag cd__law_bag ct__law_bag : Value}
    {f__law_draw : Addr} {od__law_draw an__law_draw : Option Addr} {sl__law_draw : Array (Option Value)} {oc__law_draw kV__law_draw dc__law_draw pm__law_draw cd__law_draw ct__law_draw : Value}
    {f__law_one : Addr} {od__law_one an__law_one : Option Addr} {sl__law_one : Array (Option Value)} {oc__law_one kV__law_one dc__law_one pm__law_one cd__law_one ct__law_one : Value}
    {f__law_words : Addr} {od__law_words an__law_words : Option Addr} {sl__law_words : Array (Option Value)} {oc__law_words kV__law_words dc__law_words pm__law_words cd__law_words ct__law_words : Value}
    {f__law_labels : Addr} {od__law_labels an__law_labels : Option Addr} {sl__law_labels : Array (Option Value)} {oc__law_labels kV__law_labels dc__law_labels pm__law_labels cd__law_labels ct__law_labels : Value}
    {f__law_step : Addr} {od__law_step an__law_step : Option Addr} {sl__law_step : Array (Option Value)} {oc__law_step kV__law_step dc__law_step pm__law_step cd__law_step ct__law_step : Value}
    {f__law_body : Addr} {od__law_body an__law_body : Option Addr} {sl__law_body : Array (Option Value)} {oc__law_body kV__law_body dc__law_body pm__law_body cd__law_body ct__law_body : Value}
    {f__law_start : Addr} {od__law_start an__law_start : Option Addr} {sl__law_start : Array (Option Value)} {oc__law_start kV__law_start dc__law_start pm__law_start cd__law_start ct__law_start : Value}
    {f__law_tower : Addr} {od__law_tower an__law_tower : Option Addr} {sl__law_tower : Array (Option Value)} {oc__law_tower kV__law_tower dc__law_tower pm__law_tower cd__law_tower ct__law_tower : Value}
    {f__law_signs : Addr} {od__law_signs an__law_signs : Option Addr} {sl__law_signs : Array (Option Value)} {oc__law_signs kV__law_signs dc__law_signs pm__law_signs cd__law_signs ct__law_signs : Value}
    {f__law_curly : Addr} {od__law_curly an__law_curly : Option Addr} {sl__law_curly : Array (Option Value)} {oc__law_curly kV__law_curly dc__law_curly pm__law_curly cd__law_curly ct__law_curly : Value}
    {f__law_spread : Addr} {od__law_spread an__law_spread : Option Addr} {sl__law_spread : Array (Option Value)} {oc__law_spread kV__law_spread dc__law_spread pm__law_spread cd__law_spread ct__law_spread : Value}
    {f__law_at : Addr} {od__law_at an__law_at : Option Addr} {sl__law_at : Array (Option Value)} {oc__law_at kV__law_at dc__law_at pm__law_at cd__law_at ct__law_at : Value}
    {f__law_is_open : Addr} {od__law_is_open an__law_is_open : Option Addr} {sl__law_is_open : Array (Option Value)} {oc__law_is_open kV__law_is_open dc__law_is_open pm__law_is_open cd__law_is_open ct__law_is_open : Value}
    {f__law_wrong_word : Addr} {od__law_wrong_word an__law_wrong_word : Option Addr} {sl__law_wrong_word : Array (Option Value)} {oc__law_wrong_word kV__law_wrong_word dc__law_wrong_word pm__law_wrong_word cd__law_wrong_word ct__law_wrong_word : Value}
    {f__law_deep : Addr} {od__law_deep an__law_deep : Option Addr} {sl__law_deep : Array (Option Value)} {oc__law_deep kV__law_deep dc__law_deep pm__law_deep cd__law_deep ct__law_deep : Value}
    {f__law_other_end : Addr} {od__law_other_end an__law_other_end : Option Addr} {sl__law_other_end : Array (Option Value)} {oc__law_other_end kV__law_other_end dc__law_other_end pm__law_other_end cd__law_other_end ct__law_other_end : Value}
    {f__law_left_out : Addr} {od__law_left_out an__law_left_out : Option Addr} {sl__law_left_out : Array (Option Value)} {oc__law_left_out kV__law_left_out dc__law_left_out pm__law_left_out cd__law_left_out ct__law_left_out : Value}
    {f__law_spoiled : Addr} {od__law_spoiled an__law_spoiled : Option Addr} {sl__law_spoiled : Array (Option Value)} {oc__law_spoiled kV__law_spoiled dc__law_spoiled pm__law_spoiled cd__law_spoiled ct__law_spoiled : Value}
    {od4 an4 : Option Addr} {sl4 : Array (Option Value)} {oc4 kV4 dc4 pm4 cd4 ct4 : Value}
    (zb_abs : PySem.W.nsIn K mainGlobals "abs" = some none)
    (zb_enumerate : PySem.W.nsIn K mainGlobals "enumerate" = some none)
    (zb_int : PySem.W.nsIn K mainGlobals "int" = some none)
    (zb_isinstance : PySem.W.nsIn K mainGlobals "isinstance" = some none)
    (zb_len : PySem.W.nsIn K mainGlobals "len" = some none)
    (zb_list : PySem.W.nsIn K mainGlobals "list" = some none)
    (zb_max : PySem.W.nsIn K mainGlobals "max" = some none)
    (zb_min : PySem.W.nsIn K mainGlobals "min" = some none)
    (zb_range : PySem.W.nsIn K mainGlobals "range" = some none)
    (zb_str : PySem.W.nsIn K mainGlobals "str" = some none)
    (zb_tuple : PySem.W.nsIn K mainGlobals "tuple" = some none)
    (zc_BLANKS : PySem.W.nsIn K mainGlobals "BLANKS" = some (some (.str " \n" tk_BLANKS)))
    (zc_CAPITAL : PySem.W.nsIn K mainGlobals "CAPITAL" = some (some (.str "ABCDEFGHIJKLMNOPQRSTUVWXYZ" tk_CAPITAL)))
    (zc_DEEPEST : PySem.W.nsIn K mainGlobals "DEEPEST" = some (some (.int 6 tk_DEEPEST)))
    (zc_LONGEST : PySem.W.nsIn K mainGlobals "LONGEST" = some (some (.int 8 tk_LONGEST)))
    (zc_RESERVED : PySem.W.nsIn K mainGlobals "RESERVED" = some (some (.ref C_RESERVED)))
    (lc_RESERVED : K.lookup C_RESERVED = some ⟨.type "tuple", od_RESERVED, .seq its_RESERVED n_RESERVED, sl_RESERVED⟩)
    (vc_RESERVED : its_RESERVED.toList.map absV = L_RESERVED.map some)
    (zc_SMALL : PySem.W.nsIn K mainGlobals "SMALL" = some (some (.str "abcdefghijklmnopqrstuvwxyz" tk_SMALL)))
    (zc_STEP_WORDS : PySem.W.nsIn K mainGlobals "STEP_WORDS" = some (some (.ref C_STEP_WORDS)))
    (lc_STEP_WORDS : K.lookup C_STEP_WORDS = some ⟨.type "tuple", od_STEP_WORDS, .seq its_STEP_WORDS n_STEP_WORDS, sl_STEP_WORDS⟩)
    (vc_STEP_WORDS : its_STEP_WORDS.toList.map absV = L_STEP_WORDS.map some)
    (zc_WITH_CLASS : PySem.W.nsIn K mainGlobals "WITH_CLASS" = some (some (.ref C_WITH_CLASS)))
    (lc_WITH_CLASS : K.lookup C_WITH_CLASS = some ⟨.type "tuple", od_WITH_CLASS, .seq its_WITH_CLASS n_WITH_CLASS, sl_WITH_CLASS⟩)
    (vc_WITH_CLASS : its_WITH_CLASS.toList.map absV = L_WITH_CLASS.map some)
    (zc_WITH_WORD : PySem.W.nsIn K mainGlobals "WITH_WORD" = some (some (.ref C_WITH_WORD)))
    (lc_WITH_WORD : K.lookup C_WITH_WORD = some ⟨.type "tuple", od_WITH_WORD, .seq its_WITH_WORD n_WITH_WORD, sl_WITH_WORD⟩)
    (vc_WITH_WORD : its_WITH_WORD.toList.map absV = L_WITH_WORD.map some)
    (aC_EarlyError : PySem.W.nsIn K mainGlobals "EarlyError" = some (some (.ref C_EarlyError)))
    (aC_BadText : PySem.W.nsIn K mainGlobals "BadText" = some (some (.ref C_BadText)))
    (hg_BadText : PySem.W.findIn K (.ref C_BadText) "__getattribute__" = some (some (.builtin "BaseException.__getattribute__")))
    (hk_BadText : PySem.W.findIn K (.ref C_BadText) "__getattr__" = some none)
    (hd_BadText : PySem.W.hasDictIn K C_BadText = true)
    (ha_BadText : PySem.W.findIn K (.ref C_BadText) "__class__" = some (some (.builtin "object.__class__")))
    (hm_BadText : PySem.W.mroIn K C_BadText (.type "object") = some true)
    (hi_BadText : PySem.W.isClsIn K C_BadText = true)
    (hn_BadText : PySem.W.specialIn K (.builtin "object.__class__") "__get__" = some (some (.builtin "getset_descriptor.__get__")))
    (ht_BadText : PySem.W.takesIn K (.builtin "object.__class__") = some true)
    (te_BadText : PySem.W.subIn K (.ref C_BadText) (.ref C_BadText) = some true)
    (xL_BadText : K.lookup C_BadText = some (excClassObj nm_BadText q_BadText C_BadText N_BadText bs_BadText [.ref u0_BadText, .type "ValueError", .type "Exception", .type "BaseException", .type "object"] true sn_BadText sub_BadText ab_BadText col_BadText dd_BadText m0_BadText m1_BadText m2_BadText m3_BadText m5_BadText "ValueError.__new__"))
    (sa_BadText : PySem.W.findIn K (.ref C_BadText) "__setattr__" = some (some (.builtin "object.__setattr__")))
    (eC_BadText : PySem.W.subIn K (.ref C_BadText) (.type "BaseException") = some true)
    (tC_BadText : PySem.W.typeIn K (.ref C_BadText) = some (.type "type"))
    (kC_BadText : PySem.W.keepIn K (.ref C_BadText) = true)
    (n_BadText_at : PySem.W.findIn K (.ref C_BadText) "at" = some none)
    (aC_TooMany : PySem.W.nsIn K mainGlobals "TooMany" = some (some (.ref C_TooMany)))
    (xL_TooMany : K.lookup C_TooMany = some (excClassObj nm_TooMany q_TooMany C_TooMany N_TooMany bs_TooMany [.ref u0_TooMany, .type "ValueError", .type "Exception", .type "BaseException", .type "object"] true sn_TooMany sub_TooMany ab_TooMany col_TooMany dd_TooMany m0_TooMany m1_TooMany m2_TooMany m3_TooMany m5_TooMany "ValueError.__new__"))
    (sa_TooMany : PySem.W.findIn K (.ref C_TooMany) "__setattr__" = some (some (.builtin "object.__setattr__")))
    (eC_TooMany : PySem.W.subIn K (.ref C_TooMany) (.type "BaseException") = some true)
    (tC_TooMany : PySem.W.typeIn K (.ref C_TooMany) = some (.type "type"))
    (kC_TooMany : PySem.W.keepIn K (.ref C_TooMany) = true)
    (n_TooMany_what : PySem.W.findIn K (.ref C_TooMany) "what" = some none)
    (aC_Reader : PySem.W.nsIn K mainGlobals "Reader" = some (some (.ref C_Reader)))
    (pg_Reader : PySem.W.plainGet K C_Reader Str.empty = true)
    (hd_Reader : PySem.W.hasDictIn K C_Reader = true)
    (po_Reader : PySem.W.plainOver K C_Reader = true)
    (sa_Reader : PySem.W.findIn K (.ref C_Reader) "__setattr__" = some (some (.builtin "object.__setattr__")))
    (mk_Reader : PySem.W.makesIn K C_Reader = true)
    (kc_Reader : PySem.W.keepIn K (.ref C_Reader) = true)
    (n_Reader_tokens : PySem.W.findIn K (.ref C_Reader) "tokens" = some none)
    (n_Reader_length : PySem.W.findIn K (.ref C_Reader) "length" = some none)
    (n_Reader_place : PySem.W.findIn K (.ref C_Reader) "place" = some none)
    (kit_BadText_EarlyError : PySem.W.kitOne K (.ref C_BadText) (.ref C_EarlyError) = some true)
    (kit_BadText_TooMany : PySem.W.kitOne K (.ref C_BadText) (.ref C_TooMany) = some false)
    (a_BadText___init__ : PySem.W.findIn K (.ref C_BadText) "__init__" = some (some (.ref f_BadText___init__)))
    (l_BadText___init__ : K.lookup f_BadText___init__ = some ⟨oc_BadText___init__, od_BadText___init__, .func (PySem.W.fnOf "__init__" "BadText.__init__" (defArgs s_BadText___init__) (defBody s_BadText___init__) (defScope s_BadText___init__) .none kV_BadText___init__ dc_BadText___init__ pm_BadText___init__ an_BadText___init__ cd_BadText___init__ ct_BadText___init__), sl_BadText___init__⟩)
    (c_BadText___init__ : PySem.W.codeIn K cd_BadText___init__ "BadText.__init__" = true)
    (k_BadText___init__ : PySem.W.keepIn K (.ref f_BadText___init__) = true)
    (i_BadText___init__ : PySem.W.typeIn K (.ref f_BadText___init__) = some (.type "function"))
    (a_TooMany___init__ : PySem.W.findIn K (.ref C_TooMany) "__init__" = some (some (.ref f_TooMany___init__)))
    (l_TooMany___init__ : K.lookup f_TooMany___init__ = some ⟨oc_TooMany___init__, od_TooMany___init__, .func (PySem.W.fnOf "__init__" "TooMany.__init__" (defArgs s_TooMany___init__) (defBody s_TooMany___init__) (defScope s_TooMany___init__) .none kV_TooMany___init__ dc_TooMany___init__ pm_TooMany___init__ an_TooMany___init__ cd_TooMany___init__ ct_TooMany___init__), sl_TooMany___init__⟩)
    (c_TooMany___init__ : PySem.W.codeIn K cd_TooMany___init__ "TooMany.__init__" = true)
    (k_TooMany___init__ : PySem.W.keepIn K (.ref f_TooMany___init__) = true)
    (i_TooMany___init__ : PySem.W.typeIn K (.ref f_TooMany___init__) = some (.type "function"))
    (a_tokens_of : PySem.W.nsIn K mainGlobals "tokens_of" = some (some (.ref f_tokens_of)))
    (l_tokens_of : K.lookup f_tokens_of = some ⟨oc_tokens_of, od_tokens_of, .func (PySem.W.fnOf "tokens_of" "tokens_of" (defArgs s_tokens_of) (defBody s_tokens_of) (defScope s_tokens_of) .none kV_tokens_of dc_tokens_of pm_tokens_of an_tokens_of cd_tokens_of ct_tokens_of), sl_tokens_of⟩)
    (c_tokens_of : PySem.W.codeIn K cd_tokens_of "tokens_of" = true)
    (k_tokens_of : PySem.W.keepIn K (.ref f_tokens_of) = true)
    (a_token_end : PySem.W.nsIn K mainGlobals "token_end" = some (some (.ref f_token_end)))
    (l_token_end : K.lookup f_token_end = some ⟨oc_token_end, od_token_end, .func (PySem.W.fnOf "token_end" "token_end" (defArgs s_token_end) (defBody s_token_end) (defScope s_token_end) .none kV_token_end dc_token_end pm_token_end an_token_end cd_token_end ct_token_end), sl_token_end⟩)
    (c_token_end : PySem.W.codeIn K cd_token_end "token_end" = true)
    (k_token_end : PySem.W.keepIn K (.ref f_token_end) = true)
    (a_is_letter : PySem.W.nsIn K mainGlobals "is_letter" = some (some (.ref f_is_letter)))
    (l_is_letter : K.lookup f_is_letter = some ⟨oc_is_letter, od_is_letter, .func (PySem.W.fnOf "is_letter" "is_letter" (defArgs s_is_letter) (defBody s_is_letter) (defScope s_is_letter) .none kV_is_letter dc_is_letter pm_is_letter an_is_letter cd_is_letter ct_is_letter), sl_is_letter⟩)
    (c_is_letter : PySem.W.codeIn K cd_is_letter "is_letter" = true)
    (k_is_letter : PySem.W.keepIn K (.ref f_is_letter) = true)
    (a_fits_word : PySem.W.nsIn K mainGlobals "fits_word" = some (some (.ref f_fits_word)))
    (l_fits_word : K.lookup f_fits_word = some ⟨oc_fits_word, od_fits_word, .func (PySem.W.fnOf "fits_word" "fits_word" (defArgs s_fits_word) (defBody s_fits_word) (defScope s_fits_word) .none kV_fits_word dc_fits_word pm_fits_word an_fits_word cd_fits_word ct_fits_word), sl_fits_word⟩)
    (c_fits_word : PySem.W.codeIn K cd_fits_word "fits_word" = true)
    (k_fits_word : PySem.W.keepIn K (.ref f_fits_word) = true)
    (a_fits_class : PySem.W.nsIn K mainGlobals "fits_class" = some (some (.ref f_fits_class)))
    (l_fits_class : K.lookup f_fits_class = some ⟨oc_fits_class, od_fits_class, .func (PySem.W.fnOf "fits_class" "fits_class" (defArgs s_fits_class) (defBody s_fits_class) (defScope s_fits_class) .none kV_fits_class dc_fits_class pm_fits_class an_fits_class cd_fits_class ct_fits_class), sl_fits_class⟩)
    (c_fits_class : PySem.W.codeIn K cd_fits_class "fits_class" = true)
    (k_fits_class : PySem.W.keepIn K (.ref f_fits_class) = true)
    (a_all_small : PySem.W.nsIn K mainGlobals "all_small" = some (some (.ref f_all_small)))
    (l_all_small : K.lookup f_all_small = some ⟨oc_all_small, od_all_small, .func (PySem.W.fnOf "all_small" "all_small" (defArgs s_all_small) (defBody s_all_small) (defScope s_all_small) .none kV_all_small dc_all_small pm_all_small an_all_small cd_all_small ct_all_small), sl_all_small⟩)
    (c_all_small : PySem.W.codeIn K cd_all_small "all_small" = true)
    (k_all_small : PySem.W.keepIn K (.ref f_all_small) = true)
    (a_Reader___init__ : PySem.W.findIn K (.ref C_Reader) "__init__" = some (some (.ref f_Reader___init__)))
    (l_Reader___init__ : K.lookup f_Reader___init__ = some ⟨oc_Reader___init__, od_Reader___init__, .func (PySem.W.fnOf "__init__" "Reader.__init__" (defArgs s_Reader___init__) (defBody s_Reader___init__) (defScope s_Reader___init__) .none kV_Reader___init__ dc_Reader___init__ pm_Reader___init__ an_Reader___init__ cd_Reader___init__ ct_Reader___init__), sl_Reader___init__⟩)
    (c_Reader___init__ : PySem.W.codeIn K cd_Reader___init__ "Reader.__init__" = true)
    (k_Reader___init__ : PySem.W.keepIn K (.ref f_Reader___init__) = true)
    (i_Reader___init__ : PySem.W.isFn K (.ref f_Reader___init__) = true)
    (a_Reader_token : PySem.W.findIn K (.ref C_Reader) "token" = some (some (.ref f_Reader_token)))
    (l_Reader_token : K.lookup f_Reader_token = some ⟨oc_Reader_token, od_Reader_token, .func (PySem.W.fnOf "token" "Reader.token" (defArgs s_Reader_token) (defBody s_Reader_token) (defScope s_Reader_token) .none kV_Reader_token dc_Reader_token pm_Reader_token an_Reader_token cd_Reader_token ct_Reader_token), sl_Reader_token⟩)
    (c_Reader_token : PySem.W.codeIn K cd_Reader_token "Reader.token" = true)
    (k_Reader_token : PySem.W.keepIn K (.ref f_Reader_token) = true)
    (i_Reader_token : PySem.W.isFn K (.ref f_Reader_token) = true)
    (a_Reader_position : PySem.W.findIn K (.ref C_Reader) "position" = some (some (.ref f_Reader_position)))
    (l_Reader_position : K.lookup f_Reader_position = some ⟨oc_Reader_position, od_Reader_position, .func (PySem.W.fnOf "position" "Reader.position" (defArgs s_Reader_position) (defBody s_Reader_position) (defScope s_Reader_position) .none kV_Reader_position dc_Reader_position pm_Reader_position an_Reader_position cd_Reader_position ct_Reader_position), sl_Reader_position⟩)
    (c_Reader_position : PySem.W.codeIn K cd_Reader_position "Reader.position" = true)
    (k_Reader_position : PySem.W.keepIn K (.ref f_Reader_position) = true)
    (i_Reader_position : PySem.W.isFn K (.ref f_Reader_position) = true)
    (a_Reader_advance : PySem.W.findIn K (.ref C_Reader) "advance" = some (some (.ref f_Reader_advance)))
    (l_Reader_advance : K.lookup f_Reader_advance = some ⟨oc_Reader_advance, od_Reader_advance, .func (PySem.W.fnOf "advance" "Reader.advance" (defArgs s_Reader_advance) (defBody s_Reader_advance) (defScope s_Reader_advance) .none kV_Reader_advance dc_Reader_advance pm_Reader_advance an_Reader_advance cd_Reader_advance ct_Reader_advance), sl_Reader_advance⟩)
    (c_Reader_advance : PySem.W.codeIn K cd_Reader_advance "Reader.advance" = true)
    (k_Reader_advance : PySem.W.keepIn K (.ref f_Reader_advance) = true)
    (i_Reader_advance : PySem.W.isFn K (.ref f_Reader_advance) = true)
    (a_Reader_take : PySem.W.findIn K (.ref C_Reader) "take" = some (some (.ref f_Reader_take)))
    (l_Reader_take : K.lookup f_Reader_take = some ⟨oc_Reader_take, od_Reader_take, .func (PySem.W.fnOf "take" "Reader.take" (defArgs s_Reader_take) (defBody s_Reader_take) (defScope s_Reader_take) .none kV_Reader_take dc_Reader_take pm_Reader_take an_Reader_take cd_Reader_take ct_Reader_take), sl_Reader_take⟩)
    (c_Reader_take : PySem.W.codeIn K cd_Reader_take "Reader.take" = true)
    (k_Reader_take : PySem.W.keepIn K (.ref f_Reader_take) = true)
    (i_Reader_take : PySem.W.isFn K (.ref f_Reader_take) = true)
    (a_Reader_take_word : PySem.W.findIn K (.ref C_Reader) "take_word" = some (some (.ref f_Reader_take_word)))
    (l_Reader_take_word : K.lookup f_Reader_take_word = some ⟨oc_Reader_take_word, od_Reader_take_word, .func (PySem.W.fnOf "take_word" "Reader.take_word" (defArgs s_Reader_take_word) (defBody s_Reader_take_word) (defScope s_Reader_take_word) .none kV_Reader_take_word dc_Reader_take_word pm_Reader_take_word an_Reader_take_word cd_Reader_take_word ct_Reader_take_word), sl_Reader_take_word⟩)
    (c_Reader_take_word : PySem.W.codeIn K cd_Reader_take_word "Reader.take_word" = true)
    (k_Reader_take_word : PySem.W.keepIn K (.ref f_Reader_take_word) = true)
    (i_Reader_take_word : PySem.W.isFn K (.ref f_Reader_take_word) = true)
    (a_Reader_take_class : PySem.W.findIn K (.ref C_Reader) "take_class" = some (some (.ref f_Reader_take_class)))
    (l_Reader_take_class : K.lookup f_Reader_take_class = some ⟨oc_Reader_take_class, od_Reader_take_class, .func (PySem.W.fnOf "take_class" "Reader.take_class" (defArgs s_Reader_take_class) (defBody s_Reader_take_class) (defScope s_Reader_take_class) .none kV_Reader_take_class dc_Reader_take_class pm_Reader_take_class an_Reader_take_class cd_Reader_take_class ct_Reader_take_class), sl_Reader_take_class⟩)
    (c_Reader_take_class : PySem.W.codeIn K cd_Reader_take_class "Reader.take_class" = true)
    (k_Reader_take_class : PySem.W.keepIn K (.ref f_Reader_take_class) = true)
    (i_Reader_take_class : PySem.W.isFn K (.ref f_Reader_take_class) = true)
    (a_Reader_finish : PySem.W.findIn K (.ref C_Reader) "finish" = some (some (.ref f_Reader_finish)))
    (l_Reader_finish : K.lookup f_Reader_finish = some ⟨oc_Reader_finish, od_Reader_finish, .func (PySem.W.fnOf "finish" "Reader.finish" (defArgs s_Reader_finish) (defBody s_Reader_finish) (defScope s_Reader_finish) .none kV_Reader_finish dc_Reader_finish pm_Reader_finish an_Reader_finish cd_Reader_finish ct_Reader_finish), sl_Reader_finish⟩)
    (c_Reader_finish : PySem.W.codeIn K cd_Reader_finish "Reader.finish" = true)
    (k_Reader_finish : PySem.W.keepIn K (.ref f_Reader_finish) = true)
    (i_Reader_finish : PySem.W.isFn K (.ref f_Reader_finish) = true)
    (a_read_body : PySem.W.nsIn K mainGlobals "read_body" = some (some (.ref f_read_body)))
    (l_read_body : K.lookup f_read_body = some ⟨oc_read_body, od_read_body, .func (PySem.W.fnOf "read_body" "read_body" (defArgs s_read_body) (defBody s_read_body) (defScope s_read_body) .none kV_read_body dc_read_body pm_read_body an_read_body cd_read_body ct_read_body), sl_read_body⟩)
    (c_read_body : PySem.W.codeIn K cd_read_body "read_body" = true)
    (k_read_body : PySem.W.keepIn K (.ref f_read_body) = true)
    (a_read_step : PySem.W.nsIn K mainGlobals "read_step" = some (some (.ref f_read_step)))
    (l_read_step : K.lookup f_read_step = some ⟨oc_read_step, od_read_step, .func (PySem.W.fnOf "read_step" "read_step" (defArgs s_read_step) (defBody s_read_step) (defScope s_read_step) .none kV_read_step dc_read_step pm_read_step an_read_step cd_read_step ct_read_step), sl_read_step⟩)
    (c_read_step : PySem.W.codeIn K cd_read_step "read_step" = true)
    (k_read_step : PySem.W.keepIn K (.ref f_read_step) = true)
    (a_read_if : PySem.W.nsIn K mainGlobals "read_if" = some (some (.ref f_read_if)))
    (l_read_if : K.lookup f_read_if = some ⟨oc_read_if, od_read_if, .func (PySem.W.fnOf "read_if" "read_if" (defArgs s_read_if) (defBody s_read_if) (defScope s_read_if) .none kV_read_if dc_read_if pm_read_if an_read_if cd_read_if ct_read_if), sl_read_if⟩)
    (c_read_if : PySem.W.codeIn K cd_read_if "read_if" = true)
    (k_read_if : PySem.W.keepIn K (.ref f_read_if) = true)
    (a_read_try : PySem.W.nsIn K mainGlobals "read_try" = some (some (.ref f_read_try)))
    (l_read_try : K.lookup f_read_try = some ⟨oc_read_try, od_read_try, .func (PySem.W.fnOf "read_try" "read_try" (defArgs s_read_try) (defBody s_read_try) (defScope s_read_try) .none kV_read_try dc_read_try pm_read_try an_read_try cd_read_try ct_read_try), sl_read_try⟩)
    (c_read_try : PySem.W.codeIn K cd_read_try "read_try" = true)
    (k_read_try : PySem.W.keepIn K (.ref f_read_try) = true)
    (a_read_either : PySem.W.nsIn K mainGlobals "read_either" = some (some (.ref f_read_either)))
    (l_read_either : K.lookup f_read_either = some ⟨oc_read_either, od_read_either, .func (PySem.W.fnOf "read_either" "read_either" (defArgs s_read_either) (defBody s_read_either) (defScope s_read_either) .none kV_read_either dc_read_either pm_read_either an_read_either cd_read_either ct_read_either), sl_read_either⟩)
    (c_read_either : PySem.W.codeIn K cd_read_either "read_either" = true)
    (k_read_either : PySem.W.keepIn K (.ref f_read_either) = true)
    (a_read_block : PySem.W.nsIn K mainGlobals "read_block" = some (some (.ref f_read_block)))
    (l_read_block : K.lookup f_read_block = some ⟨oc_read_block, od_read_block, .func (PySem.W.fnOf "read_block" "read_block" (defArgs s_read_block) (defBody s_read_block) (defScope s_read_block) .none kV_read_block dc_read_block pm_read_block an_read_block cd_read_block ct_read_block), sl_read_block⟩)
    (c_read_block : PySem.W.codeIn K cd_read_block "read_block" = true)
    (k_read_block : PySem.W.keepIn K (.ref f_read_block) = true)
    (a_read_braces : PySem.W.nsIn K mainGlobals "read_braces" = some (some (.ref f_read_braces)))
    (l_read_braces : K.lookup f_read_braces = some ⟨oc_read_braces, od_read_braces, .func (PySem.W.fnOf "read_braces" "read_braces" (defArgs s_read_braces) (defBody s_read_braces) (defScope s_read_braces) .none kV_read_braces dc_read_braces pm_read_braces an_read_braces cd_read_braces ct_read_braces), sl_read_braces⟩)
    (c_read_braces : PySem.W.codeIn K cd_read_braces "read_braces" = true)
    (k_read_braces : PySem.W.keepIn K (.ref f_read_braces) = true)
    (a_read_steps : PySem.W.nsIn K mainGlobals "read_steps" = some (some (.ref f_read_steps)))
    (l_read_steps : K.lookup f_read_steps = some ⟨oc_read_steps, od_read_steps, .func (PySem.W.fnOf "read_steps" "read_steps" (defArgs s_read_steps) (defBody s_read_steps) (defScope s_read_steps) .none kV_read_steps dc_read_steps pm_read_steps an_read_steps cd_read_steps ct_read_steps), sl_read_steps⟩)
    (c_read_steps : PySem.W.codeIn K cd_read_steps "read_steps" = true)
    (k_read_steps : PySem.W.keepIn K (.ref f_read_steps) = true)
    (a__law_bag : PySem.W.nsIn K mainGlobals "_law_bag" = some (some (.ref f__law_bag)))
    (l__law_bag : K.lookup f__law_bag = some ⟨oc__law_bag, od__law_bag, .func (PySem.W.fnOf "_law_bag" "_law_bag" (defArgs s__law_bag) (defBody s__law_bag) (defScope s__law_bag) .none kV__law_bag dc__law_bag pm__law_bag an__law_bag cd__law_bag ct__law_bag), sl__law_bag⟩)
    (c__law_bag : PySem.W.codeIn K cd__law_bag "_law_bag" = true)
    (k__law_bag : PySem.W.keepIn K (.ref f__law_bag) = true)
    (a__law_draw : PySem.W.nsIn K mainGlobals "_law_draw" = some (some (.ref f__law_draw)))
    (l__law_draw : K.lookup f__law_draw = some ⟨oc__law_draw, od__law_draw, .func (PySem.W.fnOf "_law_draw" "_law_draw" (defArgs s__law_draw) (defBody s__law_draw) (defScope s__law_draw) .none kV__law_draw dc__law_draw pm__law_draw an__law_draw cd__law_draw ct__law_draw), sl__law_draw⟩)
    (c__law_draw : PySem.W.codeIn K cd__law_draw "_law_draw" = true)
    (k__law_draw : PySem.W.keepIn K (.ref f__law_draw) = true)
    (a__law_one : PySem.W.nsIn K mainGlobals "_law_one" = some (some (.ref f__law_one)))
    (l__law_one : K.lookup f__law_one = some ⟨oc__law_one, od__law_one, .func (PySem.W.fnOf "_law_one" "_law_one" (defArgs s__law_one) (defBody s__law_one) (defScope s__law_one) .none kV__law_one dc__law_one pm__law_one an__law_one cd__law_one ct__law_one), sl__law_one⟩)
    (c__law_one : PySem.W.codeIn K cd__law_one "_law_one" = true)
    (k__law_one : PySem.W.keepIn K (.ref f__law_one) = true)
    (a__law_words : PySem.W.nsIn K mainGlobals "_law_words" = some (some (.ref f__law_words)))
    (l__law_words : K.lookup f__law_words = some ⟨oc__law_words, od__law_words, .func (PySem.W.fnOf "_law_words" "_law_words" (defArgs s__law_words) (defBody s__law_words) (defScope s__law_words) .none kV__law_words dc__law_words pm__law_words an__law_words cd__law_words ct__law_words), sl__law_words⟩)
    (c__law_words : PySem.W.codeIn K cd__law_words "_law_words" = true)
    (k__law_words : PySem.W.keepIn K (.ref f__law_words) = true)
    (a__law_labels : PySem.W.nsIn K mainGlobals "_law_labels" = some (some (.ref f__law_labels)))
    (l__law_labels : K.lookup f__law_labels = some ⟨oc__law_labels, od__law_labels, .func (PySem.W.fnOf "_law_labels" "_law_labels" (defArgs s__law_labels) (defBody s__law_labels) (defScope s__law_labels) .none kV__law_labels dc__law_labels pm__law_labels an__law_labels cd__law_labels ct__law_labels), sl__law_labels⟩)
    (c__law_labels : PySem.W.codeIn K cd__law_labels "_law_labels" = true)
    (k__law_labels : PySem.W.keepIn K (.ref f__law_labels) = true)
    (a__law_step : PySem.W.nsIn K mainGlobals "_law_step" = some (some (.ref f__law_step)))
    (l__law_step : K.lookup f__law_step = some ⟨oc__law_step, od__law_step, .func (PySem.W.fnOf "_law_step" "_law_step" (defArgs s__law_step) (defBody s__law_step) (defScope s__law_step) .none kV__law_step dc__law_step pm__law_step an__law_step cd__law_step ct__law_step), sl__law_step⟩)
    (c__law_step : PySem.W.codeIn K cd__law_step "_law_step" = true)
    (k__law_step : PySem.W.keepIn K (.ref f__law_step) = true)
    (a__law_body : PySem.W.nsIn K mainGlobals "_law_body" = some (some (.ref f__law_body)))
    (l__law_body : K.lookup f__law_body = some ⟨oc__law_body, od__law_body, .func (PySem.W.fnOf "_law_body" "_law_body" (defArgs s__law_body) (defBody s__law_body) (defScope s__law_body) .none kV__law_body dc__law_body pm__law_body an__law_body cd__law_body ct__law_body), sl__law_body⟩)
    (c__law_body : PySem.W.codeIn K cd__law_body "_law_body" = true)
    (k__law_body : PySem.W.keepIn K (.ref f__law_body) = true)
    (a__law_start : PySem.W.nsIn K mainGlobals "_law_start" = some (some (.ref f__law_start)))
    (l__law_start : K.lookup f__law_start = some ⟨oc__law_start, od__law_start, .func (PySem.W.fnOf "_law_start" "_law_start" (defArgs s__law_start) (defBody s__law_start) (defScope s__law_start) .none kV__law_start dc__law_start pm__law_start an__law_start cd__law_start ct__law_start), sl__law_start⟩)
    (c__law_start : PySem.W.codeIn K cd__law_start "_law_start" = true)
    (k__law_start : PySem.W.keepIn K (.ref f__law_start) = true)
    (a__law_tower : PySem.W.nsIn K mainGlobals "_law_tower" = some (some (.ref f__law_tower)))
    (l__law_tower : K.lookup f__law_tower = some ⟨oc__law_tower, od__law_tower, .func (PySem.W.fnOf "_law_tower" "_law_tower" (defArgs s__law_tower) (defBody s__law_tower) (defScope s__law_tower) .none kV__law_tower dc__law_tower pm__law_tower an__law_tower cd__law_tower ct__law_tower), sl__law_tower⟩)
    (c__law_tower : PySem.W.codeIn K cd__law_tower "_law_tower" = true)
    (k__law_tower : PySem.W.keepIn K (.ref f__law_tower) = true)
    (a__law_signs : PySem.W.nsIn K mainGlobals "_law_signs" = some (some (.ref f__law_signs)))
    (l__law_signs : K.lookup f__law_signs = some ⟨oc__law_signs, od__law_signs, .func (PySem.W.fnOf "_law_signs" "_law_signs" (defArgs s__law_signs) (defBody s__law_signs) (defScope s__law_signs) .none kV__law_signs dc__law_signs pm__law_signs an__law_signs cd__law_signs ct__law_signs), sl__law_signs⟩)
    (c__law_signs : PySem.W.codeIn K cd__law_signs "_law_signs" = true)
    (k__law_signs : PySem.W.keepIn K (.ref f__law_signs) = true)
    (a__law_curly : PySem.W.nsIn K mainGlobals "_law_curly" = some (some (.ref f__law_curly)))
    (l__law_curly : K.lookup f__law_curly = some ⟨oc__law_curly, od__law_curly, .func (PySem.W.fnOf "_law_curly" "_law_curly" (defArgs s__law_curly) (defBody s__law_curly) (defScope s__law_curly) .none kV__law_curly dc__law_curly pm__law_curly an__law_curly cd__law_curly ct__law_curly), sl__law_curly⟩)
    (c__law_curly : PySem.W.codeIn K cd__law_curly "_law_curly" = true)
    (k__law_curly : PySem.W.keepIn K (.ref f__law_curly) = true)
    (a__law_spread : PySem.W.nsIn K mainGlobals "_law_spread" = some (some (.ref f__law_spread)))
    (l__law_spread : K.lookup f__law_spread = some ⟨oc__law_spread, od__law_spread, .func (PySem.W.fnOf "_law_spread" "_law_spread" (defArgs s__law_spread) (defBody s__law_spread) (defScope s__law_spread) .none kV__law_spread dc__law_spread pm__law_spread an__law_spread cd__law_spread ct__law_spread), sl__law_spread⟩)
    (c__law_spread : PySem.W.codeIn K cd__law_spread "_law_spread" = true)
    (k__law_spread : PySem.W.keepIn K (.ref f__law_spread) = true)
    (a__law_at : PySem.W.nsIn K mainGlobals "_law_at" = some (some (.ref f__law_at)))
    (l__law_at : K.lookup f__law_at = some ⟨oc__law_at, od__law_at, .func (PySem.W.fnOf "_law_at" "_law_at" (defArgs s__law_at) (defBody s__law_at) (defScope s__law_at) .none kV__law_at dc__law_at pm__law_at an__law_at cd__law_at ct__law_at), sl__law_at⟩)
    (c__law_at : PySem.W.codeIn K cd__law_at "_law_at" = true)
    (k__law_at : PySem.W.keepIn K (.ref f__law_at) = true)
    (a__law_is_open : PySem.W.nsIn K mainGlobals "_law_is_open" = some (some (.ref f__law_is_open)))
    (l__law_is_open : K.lookup f__law_is_open = some ⟨oc__law_is_open, od__law_is_open, .func (PySem.W.fnOf "_law_is_open" "_law_is_open" (defArgs s__law_is_open) (defBody s__law_is_open) (defScope s__law_is_open) .none kV__law_is_open dc__law_is_open pm__law_is_open an__law_is_open cd__law_is_open ct__law_is_open), sl__law_is_open⟩)
    (c__law_is_open : PySem.W.codeIn K cd__law_is_open "_law_is_open" = true)
    (k__law_is_open : PySem.W.keepIn K (.ref f__law_is_open) = true)
    (a__law_wrong_word : PySem.W.nsIn K mainGlobals "_law_wrong_word" = some (some (.ref f__law_wrong_word)))
    (l__law_wrong_word : K.lookup f__law_wrong_word = some ⟨oc__law_wrong_word, od__law_wrong_word, .func (PySem.W.fnOf "_law_wrong_word" "_law_wrong_word" (defArgs s__law_wrong_word) (defBody s__law_wrong_word) (defScope s__law_wrong_word) .none kV__law_wrong_word dc__law_wrong_word pm__law_wrong_word an__law_wrong_word cd__law_wrong_word ct__law_wrong_word), sl__law_wrong_word⟩)
    (c__law_wrong_word : PySem.W.codeIn K cd__law_wrong_word "_law_wrong_word" = true)
    (k__law_wrong_word : PySem.W.keepIn K (.ref f__law_wrong_word) = true)
    (a__law_deep : PySem.W.nsIn K mainGlobals "_law_deep" = some (some (.ref f__law_deep)))
    (l__law_deep : K.lookup f__law_deep = some ⟨oc__law_deep, od__law_deep, .func (PySem.W.fnOf "_law_deep" "_law_deep" (defArgs s__law_deep) (defBody s__law_deep) (defScope s__law_deep) .none kV__law_deep dc__law_deep pm__law_deep an__law_deep cd__law_deep ct__law_deep), sl__law_deep⟩)
    (c__law_deep : PySem.W.codeIn K cd__law_deep "_law_deep" = true)
    (k__law_deep : PySem.W.keepIn K (.ref f__law_deep) = true)
    (a__law_other_end : PySem.W.nsIn K mainGlobals "_law_other_end" = some (some (.ref f__law_other_end)))
    (l__law_other_end : K.lookup f__law_other_end = some ⟨oc__law_other_end, od__law_other_end, .func (PySem.W.fnOf "_law_other_end" "_law_other_end" (defArgs s__law_other_end) (defBody s__law_other_end) (defScope s__law_other_end) .none kV__law_other_end dc__law_other_end pm__law_other_end an__law_other_end cd__law_other_end ct__law_other_end), sl__law_other_end⟩)
    (c__law_other_end : PySem.W.codeIn K cd__law_other_end "_law_other_end" = true)
    (k__law_other_end : PySem.W.keepIn K (.ref f__law_other_end) = true)
    (a__law_left_out : PySem.W.nsIn K mainGlobals "_law_left_out" = some (some (.ref f__law_left_out)))
    (l__law_left_out : K.lookup f__law_left_out = some ⟨oc__law_left_out, od__law_left_out, .func (PySem.W.fnOf "_law_left_out" "_law_left_out" (defArgs s__law_left_out) (defBody s__law_left_out) (defScope s__law_left_out) .none kV__law_left_out dc__law_left_out pm__law_left_out an__law_left_out cd__law_left_out ct__law_left_out), sl__law_left_out⟩)
    (c__law_left_out : PySem.W.codeIn K cd__law_left_out "_law_left_out" = true)
    (k__law_left_out : PySem.W.keepIn K (.ref f__law_left_out) = true)
    (a__law_spoiled : PySem.W.nsIn K mainGlobals "_law_spoiled" = some (some (.ref f__law_spoiled)))
    (l__law_spoiled : K.lookup f__law_spoiled = some ⟨oc__law_spoiled, od__law_spoiled, .func (PySem.W.fnOf "_law_spoiled" "_law_spoiled" (defArgs s__law_spoiled) (defBody s__law_spoiled) (defScope s__law_spoiled) .none kV__law_spoiled dc__law_spoiled pm__law_spoiled an__law_spoiled cd__law_spoiled ct__law_spoiled), sl__law_spoiled⟩)
    (c__law_spoiled : PySem.W.codeIn K cd__law_spoiled "_law_spoiled" = true)
    (k__law_spoiled : PySem.W.keepIn K (.ref f__law_spoiled) = true)
    (a4 : PySem.W.nsIn K mainGlobals "law" = some (some (.ref f4))) (l4 : K.lookup f4 = some ⟨oc4, od4, .func (PySem.W.fnOf "law" "law" (defArgs s_law) (defBody s_law) (defScope s_law) .none kV4 dc4 pm4 an4 cd4 ct4), sl4⟩) (c4 : PySem.W.codeIn K cd4 "law" = true) (k4 : PySem.W.keepIn K (.ref f4) = true) :
    ∃ fd : FuncData, (∀ (s : Shared) (v : Value), BindsTo s fd ⟨[v], []⟩ [("script", v)]) ∧ ∀ base : Heap, K.In base → base.Ns mainGlobals mg → FnOk l.prog w K mg base CX0 60 fa fd ["script"] (spLaw K) := by
  have e := hfa.symm.trans (PySem.W.mg_of X G a4)
  cases e
  have T : Txt K mg ⟨C_RESERVED, C_STEP_WORDS, C_WITH_CLASS, C_WITH_WORD, C_EarlyError, C_BadText, C_TooMany, C_Reader⟩ := {
    b_abs := PySem.W.mg_none_of X G zb_abs
    b_enumerate := PySem.W.mg_none_of X G zb_enumerate
    b_int := PySem.W.mg_none_of X G zb_int
    b_isinstance := PySem.W.mg_none_of X G zb_isinstance
    b_len := PySem.W.mg_none_of X G zb_len
    b_list := PySem.W.mg_none_of X G zb_list
    b_max := PySem.W.mg_none_of X G zb_max
    b_min := PySem.W.mg_none_of X G zb_min
    b_range := PySem.W.mg_none_of X G zb_range
    b_str := PySem.W.mg_none_of X G zb_str
    b_tuple := PySem.W.mg_none_of X G zb_tuple
    g_BLANKS := ⟨_, PySem.W.mg_of X G zc_BLANKS, ⟨_, rfl⟩⟩
    g_CAPITAL := ⟨_, PySem.W.mg_of X G zc_CAPITAL, ⟨_, rfl⟩⟩
    g_DEEPEST := ⟨_, PySem.W.mg_of X G zc_DEEPEST, ⟨_, rfl⟩⟩
    g_LONGEST := ⟨_, PySem.W.mg_of X G zc_LONGEST, ⟨_, rfl⟩⟩
    g_RESERVED := ⟨_, PySem.W.mg_of X G zc_RESERVED, rfl⟩
    t_RESERVED := fun H => .inr ⟨_, _, _, lc_RESERVED, rfl, rfl, (by have := congrArg List.length vc_RESERVED; simp [L_RESERVED] at this; show its_RESERVED.size ≤ sizeLine; rw [this]; decide), vals_of_abs _ _ vc_RESERVED⟩
    g_SMALL := ⟨_, PySem.W.mg_of X G zc_SMALL, ⟨_, rfl⟩⟩
    g_STEP_WORDS := ⟨_, PySem.W.mg_of X G zc_STEP_WORDS, rfl⟩
    t_STEP_WORDS := fun H => .inr ⟨_, _, _, lc_STEP_WORDS, rfl, rfl, (by have := congrArg List.length vc_STEP_WORDS; simp [L_STEP_WORDS] at this; show its_STEP_WORDS.size ≤ sizeLine; rw [this]; decide), vals_of_abs _ _ vc_STEP_WORDS⟩
    g_WITH_CLASS := ⟨_, PySem.W.mg_of X G zc_WITH_CLASS, rfl⟩
    t_WITH_CLASS := fun H => .inr ⟨_, _, _, lc_WITH_CLASS, rfl, rfl, (by have := congrArg List.length vc_WITH_CLASS; simp [L_WITH_CLASS] at this; show its_WITH_CLASS.size ≤ sizeLine; rw [this]; decide), vals_of_abs _ _ vc_WITH_CLASS⟩
    g_WITH_WORD := ⟨_, PySem.W.mg_of X G zc_WITH_WORD, rfl⟩
    t_WITH_WORD := fun H => .inr ⟨_, _, _, lc_WITH_WORD, rfl, rfl, (by have := congrArg List.length vc_WITH_WORD; simp [L_WITH_WORD] at this; show its_WITH_WORD.size ≤ sizeLine; rw [this]; decide), vals_of_abs _ _ vc_WITH_WORD⟩
    k_EarlyError := PySem.W.mg_of X G aC_EarlyError
    k_BadText := PySem.W.mg_of X G aC_BadText
    ec_BadText := ⟨hg_BadText, hk_BadText, eC_BadText, hd_BadText, ha_BadText, hn_BadText, ht_BadText, hm_BadText⟩
    te_BadText := PySem.W.exm_ref eC_BadText hd_BadText tC_BadText te_BadText
    x_BadText := ⟨⟨_, _, _, _, _, _, _, _, _, _, _, _, _, _, _, xL_BadText, by rfl⟩, sa_BadText, eC_BadText, tC_BadText, kC_BadText⟩
    n_BadText_at := n_BadText_at
    k_TooMany := PySem.W.mg_of X G aC_TooMany
    x_TooMany := ⟨⟨_, _, _, _, _, _, _, _, _, _, _, _, _, _, _, xL_TooMany, by rfl⟩, sa_TooMany, eC_TooMany, tC_TooMany, kC_TooMany⟩
    n_TooMany_what := n_TooMany_what
    k_Reader := PySem.W.mg_of X G aC_Reader
    cl_Reader := ⟨pg_Reader, hd_Reader, po_Reader, sa_Reader⟩
    n_Reader_tokens := n_Reader_tokens
    n_Reader_length := n_Reader_length
    n_Reader_place := n_Reader_place
    kit_BadText_EarlyError := kit_BadText_EarlyError
    kit_BadText_TooMany := kit_BadText_TooMany
    d_BadText___init__ := ⟨_, _, a_BadText___init__, i_BadText___init__, fun_mk (st := s_BadText___init__) l_BadText___init__ c_BadText___init__ k_BadText___init__, (fun_mk (st := s_BadText___init__) l_BadText___init__ c_BadText___init__ k_BadText___init__).binds fun _ _ _ _ _ _ us hl => match us, hl with | [_, _], _ => rfl⟩
    d_TooMany___init__ := ⟨_, _, a_TooMany___init__, i_TooMany___init__, fun_mk (st := s_TooMany___init__) l_TooMany___init__ c_TooMany___init__ k_TooMany___init__, (fun_mk (st := s_TooMany___init__) l_TooMany___init__ c_TooMany___init__ k_TooMany___init__).binds fun _ _ _ _ _ _ us hl => match us, hl with | [_, _], _ => rfl⟩
    d_tokens_of := ⟨_, _, fun_mk (st := s_tokens_of) l_tokens_of c_tokens_of k_tokens_of, PySem.W.mg_of X G a_tokens_of, (fun_mk (st := s_tokens_of) l_tokens_of c_tokens_of k_tokens_of).binds fun _ _ _ _ _ _ us hl => match us, hl with | [_], _ => rfl⟩
    d_token_end := ⟨_, _, fun_mk (st := s_token_end) l_token_end c_token_end k_token_end, PySem.W.mg_of X G a_token_end, (fun_mk (st := s_token_end) l_token_end c_token_end k_token_end).binds fun _ _ _ _ _ _ us hl => match us, hl with | [_, _], _ => rfl⟩
    d_is_letter := ⟨_, _, fun_mk (st := s_is_letter) l_is_letter c_is_letter k_is_letter, PySem.W.mg_of X G a_is_letter, (fun_mk (st := s_is_letter) l_is_letter c_is_letter k_is_letter).binds fun _ _ _ _ _ _ us hl => match us, hl with | [_], _ => rfl⟩
    d_fits_word := ⟨_, _, fun_mk (st := s_fits_word) l_fits_word c_fits_word k_fits_word, PySem.W.mg_of X G a_fits_word, (fun_mk (st := s_fits_word) l_fits_word c_fits_word k_fits_word).binds fun _ _ _ _ _ _ us hl => match us, hl with | [_], _ => rfl⟩
    d_fits_class := ⟨_, _, fun_mk (st := s_fits_class) l_fits_class c_fits_class k_fits_class, PySem.W.mg_of X G a_fits_class, (fun_mk (st := s_fits_class) l_fits_class c_fits_class k_fits_class).binds fun _ _ _ _ _ _ us hl => match us, hl with | [_], _ => rfl⟩
    d_all_small := ⟨_, _, fun_mk (st := s_all_small) l_all_small c_all_small k_all_small, PySem.W.mg_of X G a_all_small, (fun_mk (st := s_all_small) l_all_small c_all_small k_all_small).binds fun _ _ _ _ _ _ us hl => match us, hl with | [_], _ => rfl⟩
    d_Reader___init__ := ⟨_, _, ⟨mk_Reader, a_Reader___init__, i_Reader___init__, kc_Reader⟩, fun_mk (st := s_Reader___init__) l_Reader___init__ c_Reader___init__ k_Reader___init__, (fun_mk (st := s_Reader___init__) l_Reader___init__ c_Reader___init__ k_Reader___init__).binds fun _ _ _ _ _ _ us hl => match us, hl with | [_, _], _ => rfl⟩
    d_Reader_token := ⟨_, _, ⟨a_Reader_token, i_Reader_token, k_Reader_token⟩, fun_mk (st := s_Reader_token) l_Reader_token c_Reader_token k_Reader_token, (fun_mk (st := s_Reader_token) l_Reader_token c_Reader_token k_Reader_token).binds fun _ _ _ _ _ _ us hl => match us, hl with | [_], _ => rfl⟩
    d_Reader_position := ⟨_, _, ⟨a_Reader_position, i_Reader_position, k_Reader_position⟩, fun_mk (st := s_Reader_position) l_Reader_position c_Reader_position k_Reader_position, (fun_mk (st := s_Reader_position) l_Reader_position c_Reader_position k_Reader_position).binds fun _ _ _ _ _ _ us hl => match us, hl with | [_], _ => rfl⟩
    d_Reader_advance := ⟨_, _, ⟨a_Reader_advance, i_Reader_advance, k_Reader_advance⟩, fun_mk (st := s_Reader_advance) l_Reader_advance c_Reader_advance k_Reader_advance, (fun_mk (st := s_Reader_advance) l_Reader_advance c_Reader_advance k_Reader_advance).binds fun _ _ _ _ _ _ us hl => match us, hl with | [_], _ => rfl⟩
    d_Reader_take := ⟨_, _, ⟨a_Reader_take, i_Reader_take, k_Reader_take⟩, fun_mk (st := s_Reader_take) l_Reader_take c_Reader_take k_Reader_take, (fun_mk (st := s_Reader_take) l_Reader_take c_Reader_take k_Reader_take).binds fun _ _ _ _ _ _ us hl => match us, hl with | [_, _], _ => rfl⟩
    d_Reader_take_word := ⟨_, _, ⟨a_Reader_take_word, i_Reader_take_word, k_Reader_take_word⟩, fun_mk (st := s_Reader_take_word) l_Reader_take_word c_Reader_take_word k_Reader_take_word, (fun_mk (st := s_Reader_take_word) l_Reader_take_word c_Reader_take_word k_Reader_take_word).binds fun _ _ _ _ _ _ us hl => match us, hl with | [_], _ => rfl⟩
    d_Reader_take_class := ⟨_, _, ⟨a_Reader_take_class, i_Reader_take_class, k_Reader_take_class⟩, fun_mk (st := s_Reader_take_class) l_Reader_take_class c_Reader_take_class k_Reader_take_class, (fun_mk (st := s_Reader_take_class) l_Reader_take_class c_Reader_take_class k_Reader_take_class).binds fun _ _ _ _ _ _ us hl => match us, hl with | [_], _ => rfl⟩
    d_Reader_finish := ⟨_, _, ⟨a_Reader_finish, i_Reader_finish, k_Reader_finish⟩, fun_mk (st := s_Reader_finish) l_Reader_finish c_Reader_finish k_Reader_finish, (fun_mk (st := s_Reader_finish) l_Reader_finish c_Reader_finish k_Reader_finish).binds fun _ _ _ _ _ _ us hl => match us, hl with | [_], _ => rfl⟩
    d_read_body := ⟨_, _, fun_mk (st := s_read_body) l_read_body c_read_body k_read_body, PySem.W.mg_of X G a_read_body, (fun_mk (st := s_read_body) l_read_body c_read_body k_read_body).binds fun _ _ _ _ _ _ us hl => match us, hl with | [_, _], _ => rfl⟩
    d_read_step := ⟨_, _, fun_mk (st := s_read_step) l_read_step c_read_step k_read_step, PySem.W.mg_of X G a_read_step, (fun_mk (st := s_read_step) l_read_step c_read_step k_read_step).binds fun _ _ _ _ _ _ us hl => match us, hl with | [_, _], _ => rfl⟩
    d_read_if := ⟨_, _, fun_mk (st := s_read_if) l_read_if c_read_if k_read_if, PySem.W.mg_of X G a_read_if, (fun_mk (st := s_read_if) l_read_if c_read_if k_read_if).binds fun _ _ _ _ _ _ us hl => match us, hl with | [_, _], _ => rfl⟩
    d_read_try := ⟨_, _, fun_mk (st := s_read_try) l_read_try c_read_try k_read_try, PySem.W.mg_of X G a_read_try, (fun_mk (st := s_read_try) l_read_try c_read_try k_read_try).binds fun _ _ _ _ _ _ us hl => match us, hl with | [_, _], _ => rfl⟩
    d_read_either := ⟨_, _, fun_mk (st := s_read_either) l_read_either c_read_either k_read_either, PySem.W.mg_of X G a_read_either, (fun_mk (st := s_read_either) l_read_either c_read_either k_read_either).binds fun _ _ _ _ _ _ us hl => match us, hl with | [_, _], _ => rfl⟩
    d_read_block := ⟨_, _, fun_mk (st := s_read_block) l_read_block c_read_block k_read_block, PySem.W.mg_of X G a_read_block, (fun_mk (st := s_read_block) l_read_block c_read_block k_read_block).binds fun _ _ _ _ _ _ us hl => match us, hl with | [_, _], _ => rfl⟩
    d_read_braces := ⟨_, _, fun_mk (st := s_read_braces) l_read_braces c_read_braces k_read_braces, PySem.W.mg_of X G a_read_braces, (fun_mk (st := s_read_braces) l_read_braces c_read_braces k_read_braces).binds fun _ _ _ _ _ _ us hl => match us, hl with | [_, _], _ => rfl⟩
    d_read_steps := ⟨_, _, fun_mk (st := s_read_steps) l_read_steps c_read_steps k_read_steps, PySem.W.mg_of X G a_read_steps, (fun_mk (st := s_read_steps) l_read_steps c_read_steps k_read_steps).binds fun _ _ _ _ _ _ us hl => match us, hl with | [_], _ => rfl⟩
    d__law_bag := ⟨_, _, fun_mk (st := s__law_bag) l__law_bag c__law_bag k__law_bag, PySem.W.mg_of X G a__law_bag, (fun_mk (st := s__law_bag) l__law_bag c__law_bag k__law_bag).binds fun _ _ _ _ _ _ us hl => match us, hl with | [_, _], _ => rfl⟩
    d__law_draw := ⟨_, _, fun_mk (st := s__law_draw) l__law_draw c__law_draw k__law_draw, PySem.W.mg_of X G a__law_draw, (fun_mk (st := s__law_draw) l__law_draw c__law_draw k__law_draw).binds fun _ _ _ _ _ _ us hl => match us, hl with | [_, _], _ => rfl⟩
    d__law_one := ⟨_, _, fun_mk (st := s__law_one) l__law_one c__law_one k__law_one, PySem.W.mg_of X G a__law_one, (fun_mk (st := s__law_one) l__law_one c__law_one k__law_one).binds fun _ _ _ _ _ _ us hl => match us, hl with | [_, _], _ => rfl⟩
    d__law_words := ⟨_, _, fun_mk (st := s__law_words) l__law_words c__law_words k__law_words, PySem.W.mg_of X G a__law_words, (fun_mk (st := s__law_words) l__law_words c__law_words k__law_words).binds fun _ _ _ _ _ _ us hl => match us, hl with | [_, _], _ => rfl⟩
    d__law_labels := ⟨_, _, fun_mk (st := s__law_labels) l__law_labels c__law_labels k__law_labels, PySem.W.mg_of X G a__law_labels, (fun_mk (st := s__law_labels) l__law_labels c__law_labels k__law_labels).binds fun _ _ _ _ _ _ us hl => match us, hl with | [_, _], _ => rfl⟩
    d__law_step := ⟨_, _, fun_mk (st := s__law_step) l__law_step c__law_step k__law_step, PySem.W.mg_of X G a__law_step, (fun_mk (st := s__law_step) l__law_step c__law_step k__law_step).binds fun _ _ _ _ _ _ us hl => match us, hl with | [_, _, _, _], _ => rfl⟩
    d__law_body := ⟨_, _, fun_mk (st := s__law_body) l__law_body c__law_body k__law_body, PySem.W.mg_of X G a__law_body, (fun_mk (st := s__law_body) l__law_body c__law_body k__law_body).binds fun _ _ _ _ _ _ us hl => match us, hl with | [_, _, _, _], _ => rfl⟩
    d__law_start := ⟨_, _, fun_mk (st := s__law_start) l__law_start c__law_start k__law_start, PySem.W.mg_of X G a__law_start, (fun_mk (st := s__law_start) l__law_start c__law_start k__law_start).binds fun _ _ _ _ _ _ us hl => match us, hl with | [_], _ => rfl⟩
    d__law_tower := ⟨_, _, fun_mk (st := s__law_tower) l__law_tower c__law_tower k__law_tower, PySem.W.mg_of X G a__law_tower, (fun_mk (st := s__law_tower) l__law_tower c__law_tower k__law_tower).binds fun _ _ _ _ _ _ us hl => match us, hl with | [_, _, _, _], _ => rfl⟩
    d__law_signs := ⟨_, _, fun_mk (st := s__law_signs) l__law_signs c__law_signs k__law_signs, PySem.W.mg_of X G a__law_signs, (fun_mk (st := s__law_signs) l__law_signs c__law_signs k__law_signs).binds fun _ _ _ _ _ _ us hl => match us, hl with | [_], _ => rfl⟩
    d__law_curly := ⟨_, _, fun_mk (st := s__law_curly) l__law_curly c__law_curly k__law_curly, PySem.W.mg_of X G a__law_curly, (fun_mk (st := s__law_curly) l__law_curly c__law_curly k__law_curly).binds fun _ _ _ _ _ _ us hl => match us, hl with | [_], _ => rfl⟩
    d__law_spread := ⟨_, _, fun_mk (st := s__law_spread) l__law_spread c__law_spread k__law_spread, PySem.W.mg_of X G a__law_spread, (fun_mk (st := s__law_spread) l__law_spread c__law_spread k__law_spread).binds fun _ _ _ _ _ _ us hl => match us, hl with | [_, _], _ => rfl⟩
    d__law_at := ⟨_, _, fun_mk (st := s__law_at) l__law_at c__law_at k__law_at, PySem.W.mg_of X G a__law_at, (fun_mk (st := s__law_at) l__law_at c__law_at k__law_at).binds fun _ _ _ _ _ _ us hl => match us, hl with | [_], _ => rfl⟩
    d__law_is_open := ⟨_, _, fun_mk (st := s__law_is_open) l__law_is_open c__law_is_open k__law_is_open, PySem.W.mg_of X G a__law_is_open, (fun_mk (st := s__law_is_open) l__law_is_open c__law_is_open k__law_is_open).binds fun _ _ _ _ _ _ us hl => match us, hl with | [_], _ => rfl⟩
    d__law_wrong_word := ⟨_, _, fun_mk (st := s__law_wrong_word) l__law_wrong_word c__law_wrong_word k__law_wrong_word, PySem.W.mg_of X G a__law_wrong_word, (fun_mk (st := s__law_wrong_word) l__law_wrong_word c__law_wrong_word k__law_wrong_word).binds fun _ _ _ _ _ _ us hl => match us, hl with | [_, _], _ => rfl⟩
    d__law_deep := ⟨_, _, fun_mk (st := s__law_deep) l__law_deep c__law_deep k__law_deep, PySem.W.mg_of X G a__law_deep, (fun_mk (st := s__law_deep) l__law_deep c__law_deep k__law_deep).binds fun _ _ _ _ _ _ us hl => match us, hl with | [_], _ => rfl⟩
    d__law_other_end := ⟨_, _, fun_mk (st := s__law_other_end) l__law_other_end c__law_other_end k__law_other_end, PySem.W.mg_of X G a__law_other_end, (fun_mk (st := s__law_other_end) l__law_other_end c__law_other_end k__law_other_end).binds fun _ _ _ _ _ _ us hl => match us, hl with | [_, _, _], _ => rfl⟩
    d__law_left_out := ⟨_, _, fun_mk (st := s__law_left_out) l__law_left_out c__law_left_out k__law_left_out, PySem.W.mg_of X G a__law_left_out, (fun_mk (st := s__law_left_out) l__law_left_out c__law_left_out k__law_left_out).binds fun _ _ _ _ _ _ us hl => match us, hl with | [_, _], _ => rfl⟩
    d__law_spoiled := ⟨_, _, fun_mk (st := s__law_spoiled) l__law_spoiled c__law_spoiled k__law_spoiled, PySem.W.mg_of X G a__law_spoiled, (fun_mk (st := s__law_spoiled) l__law_spoiled c__law_spoiled k__law_spoiled).binds fun _ _ _ _ _ _ us hl => match us, hl with | [_, _], _ => rfl⟩
  }
  have F4 := fun_mk (st := s_law) l4 c4 k4
  exact ⟨PySem.W.fnOf "law" "law" (defArgs s_law) (defBody s_law) (defScope s_law) .none kV4 dc4 pm4 an4 cd4 ct4, fun s v => .of_eq rfl, fun base _ _ => ok_law F4 T⟩
theorem walk {l : PySem.W.OpenLaw} {q : Program} {loose : List Str} {XP : (Str → Option Value) → Heap → Prop} {YP : World → Heap → Prop} {d : DefRec} {K : Params → PySem.W.Frag} (hn : l.most = some 63) (hdf : d.params.defaults = [])
    (hY : ∀ (w : World) (h : Heap), YP w h → (K w.params).In h)
    (F : ∀ (w : World) (mg : Str → Option Value) (fa : Addr) (h : Heap), (K w.params).In h → h.Ns mainGlobals mg → mg d.name = some (.ref fa) →
      ∃ fd : FuncData, (∀ (s : Shared) (u : Value), BindsTo s fd ⟨[u], []⟩ [("script", u)]) ∧ ∀ base : Heap, (K w.params).In base → base.Ns mainGlobals mg → FnOk l.prog w (K w.params) mg base CX0 60 fa fd ["script"] (spLaw (K w.params))) :
    PySem.W.WalkO q loose XP YP l.row.toRowW d [] (fun f vs => PySem.call f vs) :=
  L2.walk_of (n := 63) (k := 60) (x := "script") (CX := fun _ => CX0) (sp := fun w => spLaw (K w.params)) hn (by decide) hdf ⟨rfl, by decide, by decide⟩ hY F (fun _ _ a ns hl _ hS => ⟨a, ns, rfl, hS, hl, fun _ => rfl⟩) fun _ _ _ _ _ z => z
end Kn
open PySem PySem.W PyProof.Rows
set_option maxRecDepth 100000 in
set_option maxHeartbeats 0 in
theorem PySem.Challenge.cw_earlyfields_k03_bodies_refused_holds : PySem.Challenge.rw_earlyfields_k03_bodies_refused.Holds := by
  w_on; o_law; k_head; (case hw => w_witness2)
  k_fill
  refine Kn.walk (l := PySem.Challenge.rw_earlyfields_k03_bodies_refused) rfl rfl (fun w h Y => PySem.W.kIn_of Y) ?F
  case F =>
    intro w mg fa h KX G hmg
    refine' Kn.all_mk KX G hmg ?zb_abs ?zb_enumerate ?zb_int ?zb_isinstance ?zb_len ?zb_list ?zb_max ?zb_min ?zb_range ?zb_str ?zb_tuple ?zc_BLANKS ?zc_CAPITAL ?zc_DEEPEST ?zc_LONGEST ?zc_RESERVED ?lc_RESERVED ?vc_RESERVED ?zc_SMALL ?zc_STEP_WORDS ?lc_STEP_WORDS ?vc_STEP_WORDS ?zc_WITH_CLASS ?lc_WITH_CLASS ?vc_WITH_CLASS ?zc_WITH_WORD ?lc_WITH_WORD ?vc_WITH_WORD ?aC_EarlyError ?aC_BadText ?hg_BadText ?hk_BadText ?hd_BadText ?ha_BadText ?hm_BadText ?hi_BadText ?hn_BadText ?ht_BadText ?te_BadText ?xL_BadText ?sa_BadText ?eC_BadText ?tC_BadText ?kC_BadText ?n_BadText_at ?aC_TooMany ?xL_TooMany ?sa_TooMany ?eC_TooMany ?tC_TooMany ?kC_TooMany ?n_TooMany_what ?aC_Reader ?pg_Reader ?hd_Reader ?po_Reader ?sa_Reader ?mk_Reader ?kc_Reader ?n_Reader_tokens ?n_Reader_length ?n_Reader_place ?kit_BadText_EarlyError ?kit_BadText_TooMany ?a_BadText___init__ ?l_BadText___init__ ?c_BadText___init__ ?k_BadText___init__ ?i_BadText___init__ ?a_TooMany___init__ ?l_TooMany___init__ ?c_TooMany___init__ ?k_TooMany___init__ ?i_TooMany___init__ ?a_tokens_of ?l_tokens_of ?c_tokens_of ?k_tokens_of ?a_token_end ?l_token_end ?c_token_end ?k_token_end ?a_is_letter ?l_is_letter ?c_is_letter ?k_is_letter ?a_fits_word ?l_fits_word ?c_fits_word ?k_fits_word ?a_fits_class ?l_fits_class ?c_fits_class ?k_fits_class ?a_all_small ?l_all_small ?c_all_small ?k_all_small ?a_Reader___init__ ?l_Reader___init__ ?c_Reader___init__ ?k_Reader___init__ ?i_Reader___init__ ?a_Reader_token ?l_Reader_token ?c_Reader_token ?k_Reader_token ?i_Reader_token ?a_Reader_position ?l_Reader_position ?c_Reader_position ?k_Reader_position ?i_Reader_position ?a_Reader_advance ?l_Reader_advance ?c_Reader_advance ?k_Reader_advance ?i_Reader_advance ?a_Reader_take ?l_Reader_take ?c_Reader_take ?k_Reader_take ?i_Reader_take ?a_Reader_take_word ?l_Reader_take_word ?c_Reader_take_word ?k_Reader_take_word ?i_Reader_take_word ?a_Reader_take_class ?l_Reader_take_class ?c_Reader_take_class ?k_Reader_take_class ?i_Reader_take_class ?a_Reader_finish ?l_Reader_finish ?c_Reader_finish ?k_Reader_finish ?i_Reader_finish ?a_read_body ?l_read_body ?c_read_body ?k_read_body ?a_read_step ?l_read_step ?c_read_step ?k_read_step ?a_read_if ?l_read_if ?c_read_if ?k_read_if ?a_read_try ?l_read_try ?c_read_try ?k_read_try ?a_read_either ?l_read_either ?c_read_either ?k_read_either ?a_read_block ?l_read_block ?c_read_block ?k_read_block ?a_read_braces ?l_read_braces ?c_read_braces ?k_read_braces ?a_read_steps ?l_read_steps ?c_read_steps ?k_read_steps ?a__law_bag ?l__law_bag ?c__law_bag ?k__law_bag ?a__law_draw ?l__law_draw ?c__law_draw ?k__law_draw ?a__law_one ?l__law_one ?c__law_one ?k__law_one ?a__law_words ?l__law_words ?c__law_words ?k__law_words ?a__law_labels ?l__law_labels ?c__law_labels ?k__law_labels ?a__law_step ?l__law_step ?c__law_step ?k__law_step ?a__law_body ?l__law_body ?c__law_body ?k__law_body ?a__law_start ?l__law_start ?c__law_start ?k__law_start ?a__law_tower ?l__law_tower ?c__law_tower ?k__law_tower ?a__law_signs ?l__law_signs ?c__law_signs ?k__law_signs ?a__law_curly ?l__law_curly ?c__law_curly ?k__law_curly ?a__law_spread ?l__law_spread ?c__law_spread ?k__law_spread ?a__law_at ?l__law_at ?c__law_at ?k__law_at ?a__law_is_open ?l__law_is_open ?c__law_is_open ?k__law_is_open ?a__law_wrong_word ?l__law_wrong_word ?c__law_wrong_word ?k__law_wrong_word ?a__law_deep ?l__law_deep ?c__law_deep ?k__law_deep ?a__law_other_end ?l__law_other_end ?c__law_other_end ?k__law_other_end ?a__law_left_out ?l__law_left_out ?c__law_left_out ?k__law_left_out ?a__law_spoiled ?l__law_spoiled ?c__law_spoiled ?k__law_spoiled ?a4 ?l4 ?c4 ?k4
    (case zb_abs => k_is)
    (case zb_enumerate => k_is)
    (case zb_int => k_is)
    (case zb_isinstance => k_is)
    (case zb_len => k_is)
    (case zb_list => k_is)
    (case zb_max => k_is)
    (case zb_min => k_is)
    (case zb_range => k_is)
    (case zb_str => k_is)
    (case zb_tuple => k_is)
    (case zc_BLANKS => k_is)
    (case zc_CAPITAL => k_is)
    (case zc_DEEPEST => k_is)
    (case zc_LONGEST => k_is)
    (case zc_RESERVED => k_is)
    (case lc_RESERVED => k_is)
    (case zc_SMALL => k_is)
    (case zc_STEP_WORDS => k_is)
    (case lc_STEP_WORDS => k_is)
    (case zc_WITH_CLASS => k_is)
    (case lc_WITH_CLASS => k_is)
    (case zc_WITH_WORD => k_is)
    (case lc_WITH_WORD => k_is)
    (case aC_EarlyError => k_is)
    (case aC_BadText => k_is)
    (case hg_BadText => k_is)
    (case hk_BadText => k_is)
    (case hd_BadText => k_is)
    (case ha_BadText => k_is)
    (case hm_BadText => k_is)
    (case hi_BadText => k_is)
    (case hn_BadText => k_is)
    (case ht_BadText => k_is)
    (case te_BadText => k_is)
    (case xL_BadText => k_is)
    (case sa_BadText => k_is)
    (case eC_BadText => k_is)
    (case tC_BadText => k_is)
    (case kC_BadText => k_is)
    (case n_BadText_at => k_is)
    (case aC_TooMany => k_is)
    (case xL_TooMany => k_is)
    (case sa_TooMany => k_is)
    (case eC_TooMany => k_is)
    (case tC_TooMany => k_is)
    (case kC_TooMany => k_is)
    (case n_TooMany_what => k_is)
    (case aC_Reader => k_is)
    (case pg_Reader => k_is)
    (case hd_Reader => k_is)
    (case po_Reader => k_is)
    (case sa_Reader => k_is)
    (case mk_Reader => k_is)
    (case kc_Reader => k_is)
    (case n_Reader_tokens => k_is)
    (case n_Reader_length => k_is)
    (case n_Reader_place => k_is)
    (case kit_BadText_EarlyError => first | kit_is | k_is)
    (case kit_BadText_TooMany => first | kit_is | k_is)
    (case a_BadText___init__ => k_is)
    (case l_BadText___init__ => k_is)
    (case c_BadText___init__ => k_is)
    (case k_BadText___init__ => k_is)
    (case i_BadText___init__ => k_is)
    (case a_TooMany___init__ => k_is)
    (case l_TooMany___init__ => k_is)
    (case c_TooMany___init__ => k_is)
    (case k_TooMany___init__ => k_is)
    (case i_TooMany___init__ => k_is)
    (case a_tokens_of => k_is)
    (case l_tokens_of => k_is)
    (case c_tokens_of => k_is)
    (case k_tokens_of => k_is)
    (case a_token_end => k_is)
    (case l_token_end => k_is)
    (case c_token_end => k_is)
    (case k_token_end => k_is)
    (case a_is_letter => k_is)
    (case l_is_letter => k_is)
    (case c_is_letter => k_is)
    (case k_is_letter => k_is)
    (case a_fits_word => k_is)
    (case l_fits_word => k_is)
    (case c_fits_word => k_is)
    (case k_fits_word => k_is)
    (case a_fits_class => k_is)
    (case l_fits_class => k_is)
    (case c_fits_class => k_is)
    (case k_fits_class => k_is)
    (case a_all_small => k_is)
    (case l_all_small => k_is)
    (case c_all_small => k_is)
    (case k_all_small => k_is)
    (case a_Reader___init__ => k_is)
    (case l_Reader___init__ => k_is)
    (case c_Reader___init__ => k_is)
    (case k_Reader___init__ => k_is)
    (case i_Reader___init__ => k_is)
    (case a_Reader_token => k_is)
    (case l_Reader_token => k_is)
    (case c_Reader_token => k_is)
    (case k_Reader_token => k_is)
    (case i_Reader_token => k_is)
    (case a_Reader_position => k_is)
    (case l_Reader_position => k_is)
    (case c_Reader_position => k_is)
    (case k_Reader_position => k_is)
    (case i_Reader_position => k_is)
    (case a_Reader_advance => k_is)
    (case l_Reader_advance => k_is)
    (case c_Reader_advance => k_is)
    (case k_Reader_advance => k_is)
    (case i_Reader_advance => k_is)
    (case a_Reader_take => k_is)
    (case l_Reader_take => k_is)
    (case c_Reader_take => k_is)
    (case k_Reader_take => k_is)
    (case i_Reader_take => k_is)
    (case a_Reader_take_word => k_is)
    (case l_Reader_take_word => k_is)
    (case c_Reader_take_word => k_is)
    (case k_Reader_take_word => k_is)
    (case i_Reader_take_word => k_is)
    (case a_Reader_take_class => k_is)
    (case l_Reader_take_class => k_is)
    (case c_Reader_take_class => k_is)
    (case k_Reader_take_class => k_is)
    (case i_Reader_take_class => k_is)
    (case a_Reader_finish => k_is)
    (case l_Reader_finish => k_is)
    (case c_Reader_finish => k_is)
    (case k_Reader_finish => k_is)
    (case i_Reader_finish => k_is)
    (case a_read_body => k_is)
    (case l_read_body => k_is)
    (case c_read_body => k_is)
    (case k_read_body => k_is)
    (case a_read_step => k_is)
    (case l_read_step => k_is)
    (case c_read_step => k_is)
    (case k_read_step => k_is)
    (case a_read_if => k_is)
    (case l_read_if => k_is)
    (case c_read_if => k_is)
    (case k_read_if => k_is)
    (case a_read_try => k_is)
    (case l_read_try => k_is)
    (case c_read_try => k_is)
    (case k_read_try => k_is)
    (case a_read_either => k_is)
    (case l_read_either => k_is)
    (case c_read_either => k_is)
    (case k_read_either => k_is)
    (case a_read_block => k_is)
    (case l_read_block => k_is)
    (case c_read_block => k_is)
    (case k_read_block => k_is)
    (case a_read_braces => k_is)
    (case l_read_braces => k_is)
    (case c_read_braces => k_is)
    (case k_read_braces => k_is)
    (case a_read_steps => k_is)
    (case l_read_steps => k_is)
    (case c_read_steps => k_is)
    (case k_read_steps => k_is)
    (case a__law_bag => k_is)
    (case l__law_bag => k_is)
    (case c__law_bag => k_is)
    (case k__law_bag => k_is)
    (case a__law_draw => k_is)
    (case l__law_draw => k_is)
    (case c__law_draw => k_is)
    (case k__law_draw => k_is)
    (case a__law_one => k_is)
    (case l__law_one => k_is)
    (case c__law_one => k_is)
    (case k__law_one => k_is)
    (case a__law_words => k_is)
    (case l__law_words => k_is)
    (case c__law_words => k_is)
    (case k__law_words => k_is)
    (case a__law_labels => k_is)
    (case l__law_labels => k_is)
    (case c__law_labels => k_is)
    (case k__law_labels => k_is)
    (case a__law_step => k_is)
    (case l__law_step => k_is)
    (case c__law_step => k_is)
    (case k__law_step => k_is)
    (case a__law_body => k_is)
    (case l__law_body => k_is)
    (case c__law_body => k_is)
    (case k__law_body => k_is)
    (case a__law_start => k_is)
    (case l__law_start => k_is)
    (case c__law_start => k_is)
    (case k__law_start => k_is)
    (case a__law_tower => k_is)
    (case l__law_tower => k_is)
    (case c__law_tower => k_is)
    (case k__law_tower => k_is)
    (case a__law_signs => k_is)
    (case l__law_signs => k_is)
    (case c__law_signs => k_is)
    (case k__law_signs => k_is)
    (case a__law_curly => k_is)
    (case l__law_curly => k_is)
    (case c__law_curly => k_is)
    (case k__law_curly => k_is)
    (case a__law_spread => k_is)
    (case l__law_spread => k_is)
    (case c__law_spread => k_is)
    (case k__law_spread => k_is)
    (case a__law_at => k_is)
    (case l__law_at => k_is)
    (case c__law_at => k_is)
    (case k__law_at => k_is)
    (case a__law_is_open => k_is)
    (case l__law_is_open => k_is)
    (case c__law_is_open => k_is)
    (case k__law_is_open => k_is)
    (case a__law_wrong_word => k_is)
    (case l__law_wrong_word => k_is)
    (case c__law_wrong_word => k_is)
    (case k__law_wrong_word => k_is)
    (case a__law_deep => k_is)
    (case l__law_deep => k_is)
    (case c__law_deep => k_is)
    (case k__law_deep => k_is)
    (case a__law_other_end => k_is)
    (case l__law_other_end => k_is)
    (case c__law_other_end => k_is)
    (case k__law_other_end => k_is)
    (case a__law_left_out => k_is)
    (case l__law_left_out => k_is)
    (case c__law_left_out => k_is)
    (case k__law_left_out => k_is)
    (case a__law_spoiled => k_is)
    (case l__law_spoiled => k_is)
    (case c__law_spoiled => k_is)
    (case k__law_spoiled => k_is)
    (case a4 => k_is)
    (case l4 => k_is)
    (case c4 => k_is)
    (case k4 => k_is)
    (case vc_RESERVED => rfl)
    (case vc_STEP_WORDS => rfl)
    (case vc_WITH_CLASS => rfl)
    (case vc_WITH_WORD => rfl)
#print axioms PySem.Challenge.cw_earlyfields_k03_bodies_refused_holds
