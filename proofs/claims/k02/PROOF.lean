import PyProof.Rows.All
import Wide.All
import OpenK.AllK
import Wide.FinOn
import HandS.ForMost
import HandS.Wide
import HandS.IsInst
import HandS.Style
import HandS.Codes
import HandS.Walk
import HandS.ExcInit
import HandS.WordsExc
import HandS.TupMul
import HandS.TupAny
import HandS.More
import KE.GoesMore
import KE.GoesEnum
import PyProof.ListStr
import PySem.Challenge.RW_earlyfields_k02_bodies_read
set_option Elab.async false
set_option maxRecDepth 100000
set_option maxHeartbeats 4000000
namespace Kn
open PySem PySem.Spec PyProof.Rows L2
open C8 (Cal pe_c pe_gc)
open SX (S S_tl S_len S_cat)
def top (i : Nat) : Stmt := PySem.Challenge.pw_earlyfields_k02_bodies_read.main.body.getD i (.Pass ⟨0, 0, 0, 0⟩)
abbrev s_BadText___init__ : Stmt := (inClass (top 2) 0)
theorem sc_BadText___init__ : FnScope ["self", "at"] ["self", "at"] (defScope s_BadText___init__) := ⟨rfl, rfl, rfl, by decide +kernel, rfl, by decide +kernel, by decide +kernel⟩
abbrev s_tokens_of : Stmt := (top 9)
theorem sc_tokens_of : FnScope ["text", "rows", "at", "end"] ["text"] (defScope s_tokens_of) := ⟨rfl, rfl, rfl, by decide +kernel, rfl, by decide +kernel, by decide +kernel⟩
abbrev s_token_end : Stmt := (top 10)
theorem sc_token_end : FnScope ["text", "at", "end"] ["text", "at"] (defScope s_token_end) := ⟨rfl, rfl, rfl, by decide +kernel, rfl, by decide +kernel, by decide +kernel⟩
abbrev s_is_letter : Stmt := (top 11)
theorem sc_is_letter : FnScope ["character"] ["character"] (defScope s_is_letter) := ⟨rfl, rfl, rfl, by decide +kernel, rfl, by decide +kernel, by decide +kernel⟩
abbrev s_fits_word : Stmt := (top 12)
theorem sc_fits_word : FnScope ["text"] ["text"] (defScope s_fits_word) := ⟨rfl, rfl, rfl, by decide +kernel, rfl, by decide +kernel, by decide +kernel⟩
abbrev s_fits_class : Stmt := (top 13)
theorem sc_fits_class : FnScope ["text"] ["text"] (defScope s_fits_class) := ⟨rfl, rfl, rfl, by decide +kernel, rfl, by decide +kernel, by decide +kernel⟩
abbrev s_all_small : Stmt := (top 14)
theorem sc_all_small : FnScope ["text", "character"] ["text"] (defScope s_all_small) := ⟨rfl, rfl, rfl, by decide +kernel, rfl, by decide +kernel, by decide +kernel⟩
abbrev s_Reader___init__ : Stmt := (inClass (top 20) 0)
theorem sc_Reader___init__ : FnScope ["self", "text"] ["self", "text"] (defScope s_Reader___init__) := ⟨rfl, rfl, rfl, by decide +kernel, rfl, by decide +kernel, by decide +kernel⟩
abbrev s_Reader_token : Stmt := (inClass (top 20) 1)
theorem sc_Reader_token : FnScope ["self"] ["self"] (defScope s_Reader_token) := ⟨rfl, rfl, rfl, by decide +kernel, rfl, by decide +kernel, by decide +kernel⟩
abbrev s_Reader_position : Stmt := (inClass (top 20) 2)
theorem sc_Reader_position : FnScope ["self"] ["self"] (defScope s_Reader_position) := ⟨rfl, rfl, rfl, by decide +kernel, rfl, by decide +kernel, by decide +kernel⟩
abbrev s_Reader_advance : Stmt := (inClass (top 20) 3)
theorem sc_Reader_advance : FnScope ["self", "token"] ["self"] (defScope s_Reader_advance) := ⟨rfl, rfl, rfl, by decide +kernel, rfl, by decide +kernel, by decide +kernel⟩
abbrev s_Reader_take : Stmt := (inClass (top 20) 4)
theorem sc_Reader_take : FnScope ["self", "wanted"] ["self", "wanted"] (defScope s_Reader_take) := ⟨rfl, rfl, rfl, by decide +kernel, rfl, by decide +kernel, by decide +kernel⟩
abbrev s_Reader_take_word : Stmt := (inClass (top 20) 5)
theorem sc_Reader_take_word : FnScope ["self"] ["self"] (defScope s_Reader_take_word) := ⟨rfl, rfl, rfl, by decide +kernel, rfl, by decide +kernel, by decide +kernel⟩
abbrev s_Reader_take_class : Stmt := (inClass (top 20) 6)
theorem sc_Reader_take_class : FnScope ["self"] ["self"] (defScope s_Reader_take_class) := ⟨rfl, rfl, rfl, by decide +kernel, rfl, by decide +kernel, by decide +kernel⟩
abbrev s_Reader_finish : Stmt := (inClass (top 20) 7)
theorem sc_Reader_finish : FnScope ["self"] ["self"] (defScope s_Reader_finish) := ⟨rfl, rfl, rfl, by decide +kernel, rfl, by decide +kernel, by decide +kernel⟩
abbrev s_read_body : Stmt := (top 21)
theorem sc_read_body : FnScope ["reader", "depth", "steps"] ["reader", "depth"] (defScope s_read_body) := ⟨rfl, rfl, rfl, by decide +kernel, rfl, by decide +kernel, by decide +kernel⟩
abbrev s_read_step : Stmt := (top 22)
theorem sc_read_step : FnScope ["reader", "depth", "word", "step"] ["reader", "depth"] (defScope s_read_step) := ⟨rfl, rfl, rfl, by decide +kernel, rfl, by decide +kernel, by decide +kernel⟩
abbrev s_read_if : Stmt := (top 23)
theorem sc_read_if : FnScope ["reader", "depth", "name", "first"] ["reader", "depth"] (defScope s_read_if) := ⟨rfl, rfl, rfl, by decide +kernel, rfl, by decide +kernel, by decide +kernel⟩
abbrev s_read_try : Stmt := (top 24)
theorem sc_read_try : FnScope ["reader", "depth", "first"] ["reader", "depth"] (defScope s_read_try) := ⟨rfl, rfl, rfl, by decide +kernel, rfl, by decide +kernel, by decide +kernel⟩
abbrev s_read_either : Stmt := (top 25)
theorem sc_read_either : FnScope ["reader", "depth", "blocks"] ["reader", "depth"] (defScope s_read_either) := ⟨rfl, rfl, rfl, by decide +kernel, rfl, by decide +kernel, by decide +kernel⟩
abbrev s_read_block : Stmt := (top 26)
theorem sc_read_block : FnScope ["reader", "depth"] ["reader", "depth"] (defScope s_read_block) := ⟨rfl, rfl, rfl, by decide +kernel, rfl, by decide +kernel, by decide +kernel⟩
abbrev s_read_braces : Stmt := (top 27)
theorem sc_read_braces : FnScope ["reader", "depth", "body"] ["reader", "depth"] (defScope s_read_braces) := ⟨rfl, rfl, rfl, by decide +kernel, rfl, by decide +kernel, by decide +kernel⟩
abbrev s_read_steps : Stmt := (top 29)
theorem sc_read_steps : FnScope ["text", "reader", "body"] ["text"] (defScope s_read_steps) := ⟨rfl, rfl, rfl, by decide +kernel, rfl, by decide +kernel, by decide +kernel⟩
abbrev s_write_steps : Stmt := (top 30)
theorem sc_write_steps : FnScope ["body", "step"] ["body"] (defScope s_write_steps) := ⟨rfl, rfl, rfl, by decide +kernel, rfl, by decide +kernel, by decide +kernel⟩
abbrev s_write_step : Stmt := (top 31)
theorem sc_write_step : FnScope ["step", "word", "block"] ["step"] (defScope s_write_step) := ⟨rfl, rfl, rfl, by decide +kernel, rfl, by decide +kernel, by decide +kernel⟩
abbrev s_write_block : Stmt := (top 32)
theorem sc_write_block : FnScope ["body"] ["body"] (defScope s_write_block) := ⟨rfl, rfl, rfl, by decide +kernel, rfl, by decide +kernel, by decide +kernel⟩
abbrev s__law_bag : Stmt := (top 34)
theorem sc__law_bag : FnScope ["script", "at", "cell", "seed", "turn", "each"] ["script", "at"] (defScope s__law_bag) := ⟨rfl, rfl, rfl, by decide +kernel, rfl, by decide +kernel, by decide +kernel⟩
abbrev s__law_draw : Stmt := (top 35)
theorem sc__law_draw : FnScope ["bag", "many", "digit"] ["bag", "many"] (defScope s__law_draw) := ⟨rfl, rfl, rfl, by decide +kernel, rfl, by decide +kernel, by decide +kernel⟩
abbrev s__law_one : Stmt := (top 36)
theorem sc__law_one : FnScope ["bag", "some"] ["bag", "some"] (defScope s__law_one) := ⟨rfl, rfl, rfl, by decide +kernel, rfl, by decide +kernel, by decide +kernel⟩
abbrev s__law_words : Stmt := (top 37)
theorem sc__law_words : FnScope ["bag", "many", "left", "stem", "found", "turn", "is_ahead", "sign"] ["bag", "many"] (defScope s__law_words) := ⟨rfl, rfl, rfl, by decide +kernel, rfl, by decide +kernel, by decide +kernel⟩
abbrev s__law_labels : Stmt := (top 38)
theorem sc__law_labels : FnScope ["bag", "many", "left", "stem", "found", "turn"] ["bag", "many"] (defScope s__law_labels) := ⟨rfl, rfl, rfl, by decide +kernel, rfl, by decide +kernel, by decide +kernel⟩
abbrev s__law_step : Stmt := (top 39)
theorem sc__law_step : FnScope ["bag", "words", "room", "depth", "kind", "blocks", "turn"] ["bag", "words", "room", "depth"] (defScope s__law_step) := ⟨rfl, rfl, rfl, by decide +kernel, rfl, by decide +kernel, by decide +kernel⟩
abbrev s__law_body : Stmt := (top 40)
theorem sc__law_body : FnScope ["bag", "words", "room", "depth", "steps", "turn"] ["bag", "words", "room", "depth"] (defScope s__law_body) := ⟨rfl, rfl, rfl, by decide +kernel, rfl, by decide +kernel, by decide +kernel⟩
abbrev s__law_start : Stmt := (top 41)
theorem sc__law_start : FnScope ["bag", "names", "methods", "labels"] ["bag"] (defScope s__law_start) := ⟨rfl, rfl, rfl, by decide +kernel, rfl, by decide +kernel, by decide +kernel⟩
abbrev s__law_tower : Stmt := (top 42)
theorem sc__law_tower : FnScope ["bag", "names", "body", "many", "turn", "kind", "pair", "step", "blocks"] ["bag", "names", "body", "many"] (defScope s__law_tower) := ⟨rfl, rfl, rfl, by decide +kernel, rfl, by decide +kernel, by decide +kernel⟩
abbrev s__law_block : Stmt := (top 43)
theorem sc__law_block : FnScope ["body"] ["body"] (defScope s__law_block) := ⟨rfl, rfl, rfl, by decide +kernel, rfl, by decide +kernel, by decide +kernel⟩
abbrev s__law_written : Stmt := (top 44)
theorem sc__law_written : FnScope ["body", "found", "step", "both", "block"] ["body"] (defScope s__law_written) := ⟨rfl, rfl, rfl, by decide +kernel, rfl, by decide +kernel, by decide +kernel⟩
abbrev s__law_signs : Stmt := (top 45)
theorem sc__law_signs : FnScope ["body", "found", "step", "at", "block"] ["body"] (defScope s__law_signs) := ⟨rfl, rfl, rfl, by decide +kernel, rfl, by decide +kernel, by decide +kernel⟩
abbrev s__law_curly : Stmt := (top 46)
theorem sc__law_curly : FnScope ["body"] ["body"] (defScope s__law_curly) := ⟨rfl, rfl, rfl, by decide +kernel, rfl, by decide +kernel, by decide +kernel⟩
abbrev s__law_spread : Stmt := (top 47)
theorem sc__law_spread : FnScope ["bag", "tokens", "text", "places", "at", "token"] ["bag", "tokens"] (defScope s__law_spread) := ⟨rfl, rfl, rfl, by decide +kernel, rfl, by decide +kernel, by decide +kernel⟩
abbrev s_law : Stmt := (top 48)
theorem sc_law : FnScope ["script", "at", "bag", "words", "many", "body", "text", "canonical"] ["script"] (defScope s_law) := ⟨rfl, rfl, rfl, by decide +kernel, rfl, by decide +kernel, by decide +kernel⟩
/-! ### 0. common words of our own -/
/-- a def of the module behind the top, under its name -/
structure Dfn (K : PySem.W.Frag) (mg : Str → Option Value) (x : Str) (st : Stmt) (ps : List Str) : Prop where
  ex : ∃ (f : Addr) (fd : FuncData), Fun K x x st f fd ∧ mg x = some (.ref f) ∧ Binds K fd ps []
theorem vals_of_abs : ∀ (us : List Value) (vs : List V), us.map absV = vs.map some → Vals vs us
  | [], [], _ => .nil
  | [], _ :: _, h => by cases h
  | _ :: _, [], h => by cases h
  | u :: us, v :: vs, h => by
    rw [List.map_cons, List.map_cons] at h
    injection h with h1 h2
    refine .cons ?_ (vals_of_abs us vs h2)
    cases u <;> first | (cases h1; rfl) | (cases h1; exact ⟨_, rfl⟩) | cases h1
section
variable {P : Program} {w : World} {K : PySem.W.Frag} {mg : Str → Option Value} {base : Heap}
theorem cal_of {x : Str} {st : Stmt} {N ps : List Str} {k : Nat} {sp : Sp} (D : Dfn K mg x st ps) (S : FnScope N ps (defScope st)) (len : ∀ vs H Q E, sp vs H Q E → vs.length = ps.length)
    (hbody : ∀ (f : Addr) (cdv : Value) (A : Around) (outer : List Env) (s : Shared) (H : Hp) (vs : List V) (Q : VK) (E : XK), Room k (A.deeper (envOfC x (defScope st) s.heap.objs.size f cdv)) → sp vs H Q E →
      ∃ t, PSs (cxOf CX0 P w K mg base N x (defScope st) f cdv A outer s H E).nox (defBody st) t ∧ t { nx := fun _ H' => Q .non H', rt := Q } (start N vs) H) : C8.Cal P w K mg base (k + 1) x sp [] := by
  obtain ⟨f, fd, F, hm, b⟩ := D.ex
  exact ⟨f, fd, ps, [], F.ok S len fun cdv A outer s H vs Q E hr h => hbody f cdv A outer s H vs Q E hr h, hm, F.kp, b, .nil⟩
end
section
variable {X : Cx} {k j : Nat} {x : Str} {sp : Sp} {p pos : Pos}
/-- f() -/
theorem pe_c0 {dvs : List V} (c : C8.Cal X.prog X.w X.K X.mg X.base k x sp dvs) (hr : Room j X.A) (hk : k ≤ j) (hg : Gl X x) (hdb : (x == ("__debug__" : Str)) = false := by decide) :
    PE X (.Call (.Name x p) [] [] pos) (tCall sp dvs E0 tNil) := by
  obtain ⟨f, fd, ps, ds, F, hm, kp, b, d⟩ := c.ex
  exact pe_call0 F (hr.mono hk) hg hm kp b d pass0 hdb
end
/-- within a comprehension the written part is said, for its own context is not known outside -/
theorem bmK {X : Cx} {K : PySem.W.Frag} {e : Expr} {to : TE} {t : TA} {T : String} {r : V → List V → Hp → VK → Prop} (hK : X.K = K) (h : PE X e (tBM X.K T r to t)) : PE X e (tBM K T r to t) := hK ▸ h

/-! ### 0b. classes, exceptions of our own, defs that raise -/
structure ExI (K : PySem.W.Frag) (C : Addr) (qual : Str) (st : Stmt) (ps : List Str) : Prop where
  ex : ∃ (f : Addr) (fd : FuncData), PySem.W.findIn K (.ref C) "__init__" = some (some (.ref f)) ∧ PySem.W.typeIn K (.ref f) = some (.type "function") ∧ Fun K "__init__" qual st f fd ∧ Binds K fd ps []
structure Ini (K : PySem.W.Frag) (C : Addr) (qual : Str) (st : Stmt) (ps : List Str) : Prop where
  ex : ∃ (f : Addr) (fd : FuncData), Mk K C f ∧ Fun K "__init__" qual st f fd ∧ Binds K fd ps []
structure Mth (K : PySem.W.Frag) (C : Addr) (m qual : Str) (st : Stmt) (ps : List Str) : Prop where
  ex : ∃ (f : Addr) (fd : FuncData), Meth K C m f ∧ Fun K m qual st f fd ∧ Binds K fd ps []
section
variable (P : Program) (w : World) (K : PySem.W.Frag) (mg : Str → Option Value) (base : Heap)
structure CalX (k : Nat) (x : Str) (sp : Sp) : Prop where
  ex : ∃ (f : Addr) (fd : FuncData) (ps : List Str), FnOk P w K mg base (L2.CX P w) k f fd ps sp ∧ mg x = some (.ref f) ∧ PySem.W.keepIn K (.ref f) = true ∧ Binds K fd ps []
structure MetX (k : Nat) (C : Addr) (m : Str) (sp : Sp) : Prop where
  ex : ∃ (f : Addr) (fd : FuncData) (ps : List Str), Cls K C ∧ Meth K C m f ∧ FnOk P w K mg base (L2.CX P w) k f fd ps sp ∧ Binds K fd ps []
structure MakX (k : Nat) (C : Addr) (sp : Sp) : Prop where
  ex : ∃ (f : Addr) (fd : FuncData) (ps : List Str), Mk K C f ∧ FnOk P w K mg base (L2.CX P w) k f fd ps sp ∧ Binds K fd ps []
structure ExIni (k : Nat) (C : Addr) (sp : Sp) : Prop where
  ex : ∃ (f : Addr) (fd : FuncData) (ps : List Str), PySem.W.findIn K (.ref C) "__init__" = some (some (.ref f)) ∧ PySem.W.typeIn K (.ref f) = some (.type "function") ∧ FnOk P w K mg base CX0 k f fd ps sp ∧ Binds K fd ps []
end
section
variable {P : Program} {w : World} {K : PySem.W.Frag} {mg : Str → Option Value} {base : Heap}
/-- what a body's proof is, nothing raised | raised -/
def Body0 (P : Program) (w : World) (K : PySem.W.Frag) (mg : Str → Option Value) (base : Heap) (k : Nat) (qual : Str) (st : Stmt) (N : List Str) (sp : Sp) : Prop :=
  ∀ (f : Addr) (cdv : Value) (A : Around) (outer : List Env) (s : Shared) (H : Hp) (vs : List V) (Q : VK) (E : XK), Room k (A.deeper (envOfC qual (defScope st) s.heap.objs.size f cdv)) → sp vs H Q E →
    ∃ t, PSs (cxOf CX0 P w K mg base N qual (defScope st) f cdv A outer s H E).nox (defBody st) t ∧ t { nx := fun _ H' => Q .non H', rt := Q } (start N vs) H
def BodyX (P : Program) (w : World) (K : PySem.W.Frag) (mg : Str → Option Value) (base : Heap) (k : Nat) (qual : Str) (st : Stmt) (N : List Str) (sp : Sp) : Prop :=
  ∀ (f : Addr) (cdv : Value) (A : Around) (outer : List Env) (s : Shared) (H : Hp) (vs : List V) (Q : VK) (E : XK), Room k (A.deeper (envOfC qual (defScope st) s.heap.objs.size f cdv)) → sp vs H Q E →
    ∃ t, PSs (cxOf (L2.CX P w) P w K mg base N qual (defScope st) f cdv A outer s H E) (defBody st) t ∧ t { nx := fun _ H' => Q .non H', rt := Q } (start N vs) H
theorem met_of {C : Addr} {m qual : Str} {st : Stmt} {N ps : List Str} {k : Nat} {sp : Sp} (c : Cls K C) (D : Mth K C m qual st ps) (S : FnScope N ps (defScope st)) (len : ∀ vs H Q E, sp vs H Q E → vs.length = ps.length)
    (hb : Body0 P w K mg base k qual st N sp) : C8.Met P w K mg base (k + 1) C m sp [] := by
  obtain ⟨f, fd, M, F, b⟩ := D.ex
  exact ⟨f, fd, ps, [], c, M, F.ok S len fun cdv A outer s H vs Q E hr h => hb f cdv A outer s H vs Q E hr h, b, .nil⟩
theorem metX_of {C : Addr} {m qual : Str} {st : Stmt} {N ps : List Str} {k : Nat} {sp : Sp} (c : Cls K C) (D : Mth K C m qual st ps) (S : FnScope N ps (defScope st)) (len : ∀ vs H Q E, sp vs H Q E → vs.length = ps.length)
    (hb : BodyX P w K mg base k qual st N sp) : MetX P w K mg base (k + 1) C m sp := by
  obtain ⟨f, fd, M, F, b⟩ := D.ex
  exact ⟨f, fd, ps, c, M, F.okX S len fun cdv A outer s H vs Q E hr h => hb f cdv A outer s H vs Q E hr h, b⟩
theorem calX_of {x : Str} {st : Stmt} {N ps : List Str} {k : Nat} {sp : Sp} (D : Dfn K mg x st ps) (S : FnScope N ps (defScope st)) (len : ∀ vs H Q E, sp vs H Q E → vs.length = ps.length)
    (hb : BodyX P w K mg base k x st N sp) : CalX P w K mg base (k + 1) x sp := by
  obtain ⟨f, fd, F, hm, b⟩ := D.ex
  exact ⟨f, fd, ps, F.okX S len fun cdv A outer s H vs Q E hr h => hb f cdv A outer s H vs Q E hr h, hm, F.kp, b⟩
theorem makX_of {C : Addr} {qual : Str} {st : Stmt} {N ps : List Str} {k : Nat} {sp : Sp} (D : Ini K C qual st ps) (S : FnScope N ps (defScope st)) (len : ∀ vs H Q E, sp vs H Q E → vs.length = ps.length)
    (hb : BodyX P w K mg base k qual st N sp) : MakX P w K mg base (k + 1) C sp := by
  obtain ⟨f, fd, M, F, b⟩ := D.ex
  exact ⟨f, fd, ps, M, F.okX S len fun cdv A outer s H vs Q E hr h => hb f cdv A outer s H vs Q E hr h, b⟩
theorem exi_of {C : Addr} {qual : Str} {st : Stmt} {N ps : List Str} {k : Nat} {sp : Sp} (D : ExI K C qual st ps) (S : FnScope N ps (defScope st)) (len : ∀ vs H Q E, sp vs H Q E → vs.length = ps.length)
    (hb : Body0 P w K mg base k qual st N sp) : ExIni P w K mg base (k + 1) C sp := by
  obtain ⟨f, fd, h1, h2, F, b⟩ := D.ex
  exact ⟨f, fd, ps, h1, h2, F.ok S len fun cdv A outer s H vs Q E hr h => hb f cdv A outer s H vs Q E hr h, b⟩
end
section
variable {X : Cx} {k j : Nat} {C : Addr} {x m f : Str} {sp : Sp} {E : XK} {p pos apos pos2 : Pos} {e o : Expr} {es : List Expr} {ta : TE} {t : TA} {W : WX}
theorem pe_cX (c : CalX X.prog X.w X.K X.mg X.base k x sp) (hr : Room j X.A) (hk : k ≤ j) (hg : Gl X x) (hx : Passes (L2.CX X.prog X.w) X E) (ha : PA X (e :: es) t) (hdb : (x == ("__debug__" : Str)) = false := by decide)
    (he : starEach (e :: es) X.env = (false, eval e X.env) :: starEach es X.env := by rfl) (hpl : (backTo pos (starEach es X.env)).any (·.1) = false := by rfl) : PE X (.Call (.Name x p) (e :: es) [] pos) (tCall sp [] E t) := by
  obtain ⟨f, fd, ps, F, hm, kp, b⟩ := c.ex
  exact pe_call F (hr.mono hk) hg hm kp b .nil hx ha hdb he hpl
theorem pe_mkX (c : MakX X.prog X.w X.K X.mg X.base k C sp) (hr : Room j X.A) (hk : k + 1 ≤ j) (hg : Gl X x) (hm : X.mg x = some (.ref C)) (hx : Passes (L2.CX X.prog X.w) X E) (ha : PA X (e :: es) t) (hdb : (x == ("__debug__" : Str)) = false := by decide)
    (he : starEach (e :: es) X.env = (false, eval e X.env) :: starEach es X.env := by rfl) (hpl : (backTo pos (starEach es X.env)).any (·.1) = false := by rfl) : PE X (.Call (.Name x p) (e :: es) [] pos) (tMake C sp [] E t) := by
  obtain ⟨f, fd, ps, M, F, b⟩ := c.ex
  exact pe_make M F (hr.mono hk) hg hm b .nil hx ha hdb he hpl
theorem pe_mtX {pl : Sem Bool} (c : MetX X.prog X.w X.K X.mg X.base k C m sp) (hr : Room j X.A) (hk : k ≤ j) (he : PE X o ta) (hx : Passes (L2.CX X.prog X.w) X E) (ha : PA X (e :: es) t)
    (hst : starEach (e :: es) X.env = (false, eval e X.env) :: starEach es X.env := by rfl) (hpl : (backTo pos (starEach es X.env)).any (·.1) = false := by rfl)
    (ht : eval (.Call (.Attribute o m apos) (e :: es) [] pos) X.env = (do
      let ov ← eval o X.env; standAt apos.atName; let (f, first) ← holding [ov] (getMethod ov m pl); callWith pos f first (backTo pos (starEach (e :: es) X.env)) (backToKw pos (keywordEach [] X.env))) := by rfl) :
    PE X (.Call (.Attribute o m apos) (e :: es) [] pos) (tMeth C m sp [] E ta t) := by
  obtain ⟨f, fd, ps, hc, hm, F, b⟩ := c.ex
  exact pe_meth (pl := pl) he hc hm F (hr.mono hk) b .nil hx ha hst hpl ht
theorem pe_mtX0 {pl : Sem Bool} (c : MetX X.prog X.w X.K X.mg X.base k C m sp) (hr : Room j X.A) (hk : k ≤ j) (he : PE X o ta) (hx : Passes (L2.CX X.prog X.w) X E)
    (ht : eval (.Call (.Attribute o m apos) [] [] pos) X.env = (do
      let ov ← eval o X.env; standAt apos.atName; let (f, first) ← holding [ov] (getMethod ov m pl); callWith pos f first (backTo pos (starEach [] X.env)) (backToKw pos (keywordEach [] X.env))) := by rfl) :
    PE X (.Call (.Attribute o m apos) [] [] pos) (tMeth C m sp [] E ta tNil) := by
  obtain ⟨f, fd, ps, hc, hm, F, b⟩ := c.ex
  exact pe_meth0 (pl := pl) he hc hm F (hr.mono hk) b .nil hx ht
/-- the __init__ of an error with one field -/
def spExI (C : Addr) (f : Str) : Sp := fun vs H Q _ => ∃ (a : Addr) (v : V), vs = [.ref a, v] ∧ H a = some (exo a C none) ∧ ∀ dx, H dx = none → dx ≠ a → Q .non (upd (upd H dx (exd dx [(f, v)])) a (exo a C (some dx)))
/-- raise X(e) -/
theorem ps_bad (hc : X.calm = true) (tk : Takes X W) (T : OexC X.K C) (hm : X.mg x = some (.ref C)) (c : ExIni X.prog X.w X.K X.mg X.base k C (spExI C f)) (hr : Room j X.A) (hk : k + 1 ≤ j) (hg : Gl X x) (ha : PA X (e :: []) t)
    (hdb : (x == ("__debug__" : Str)) = false := by decide) (he : starEach (e :: []) X.env = (false, eval e X.env) :: starEach [] X.env := by rfl) (hpl : (backTo pos (starEach [] X.env)).any (·.1) = false := by rfl) :
    PS X (.Raise (some (.Call (.Name x p) (e :: []) [] pos)) none pos2) (fun _ σ H => tMkO C (spExI C f) [] t σ H fun cls d H' => W cls d σ H') := by
  obtain ⟨g, fd, ps, iC, tI, F, b⟩ := c.ex
  exact ps_raise hc tk (pmk_oex T iC tI F (hr.mono hk) b .nil pass0 hg hm ha hdb he hpl)
theorem bad_k {H1 : Hp} {v : V} {Q : XK} (h : ∀ d H', H1 d = none → Same H1 H' → H' d = some (.xd [(f, v)]) → Q (.ref C) (some d) H') :
    [v].length ≤ 1000 ∧ ∀ a, H1 a = none → spExI C f (.ref a :: ([v] ++ [])) (upd H1 a (exo a C none))
      (fun u H2 => u = .non ∧ ∃ (d : Addr) (fs : List (Str × V)), H2 a = some (exo a C (some d)) ∧ H2 d = some (exd d fs) ∧ H1 d = none ∧ Q (.ref C) (some d) (upd (del H2 a) d (.xd fs))) (fun _ _ _ => False) := by
  refine ⟨by show 1 ≤ 1000; decide, fun a ha => ⟨a, v, rfl, upd_same, fun dx hdx ne => ⟨rfl, dx, [(f, v)], upd_same, by rw [upd_ne ne]; exact upd_same, ?_, ?_⟩⟩⟩
  · rw [upd_ne ne] at hdx
    exact hdx
  · rw [upd_ne ne] at hdx
    refine h dx _ hdx (fun b o e => ?_) upd_same
    have hb : b ≠ a := ne_of_none e ha
    rw [upd_ne (ne_of_none e hdx), del_ne hb, upd_ne hb, upd_ne (ne_of_none e hdx), upd_ne hb]
    exact e
end
theorem putF_ne {f g : Str} {v x : V} {l : List (Str × V)} (h : ¬ g = f) : putF f v ((g, x) :: l) = (g, x) :: putF f v l := if_neg h
theorem putF_eq {f : Str} {v x : V} {l : List (Str × V)} : putF f v ((f, x) :: l) = (f, v) :: l := if_pos rfl
theorem look_ne {f g : Str} {x : V} {l : List (Str × V)} (h : ¬ f = g) : ((g, x) :: l).lookup f = l.lookup f := by
  have e : (f == g) = false := by simpa using h
  simp [List.lookup, e]
theorem look_eq {f : Str} {x : V} {l : List (Str × V)} : ((f, x) :: l).lookup f = some x := by simp [List.lookup]
theorem putF_len (f : Str) (v : V) : ∀ l : List (Str × V), (putF f v l).length ≤ l.length + 1
  | [] => Nat.le_refl _
  | (g, x) :: l => by
    unfold putF
    split
    · simp
    · have := putF_len f v l
      simp
      omega
theorem few (f : Str) (v : V) {l : List (Str × V)} {n : Nat} (h : l.length ≤ n) : (putF f v l).length ≤ n + 1 := Nat.le_trans (putF_len f v l) (Nat.succ_le_succ h)

/-! ### 0c. further rules: list(text), tuple * 0, tuple * 1 -/
theorem tup_mul01 (l : Addr) (items : Array Value) (n : Nat) (dd : Option Addr) (sl : Array (Option Value)) (u : Tok) (ne : items.isEmpty = false) :
    Meets (Builtin.«tuple.__mul__» ⟨[.ref l, .int 1 u], []⟩) (fun _ R s => s.heap.get? l = some { cls := .type "tuple", dict := dd, data := .seq items n, slots := sl } ∧ R (.ok (.ret (Value.ref l))) s) :=
  .of_wp fun prog w A R s h => by
    obtain ⟨hp, g, d, tk, os⟩ := s
    obtain ⟨hl, h⟩ := h
    have f1 := AutoSeq1.idx_int
    wp_walk using wpAny_loadPart' hl
    exact ⟨_, rfl, h⟩
theorem tup_mul00 (l : Addr) (items : Array Value) (n : Nat) (dd : Option Addr) (sl : Array (Option Value)) (u : Tok) (ne : items.isEmpty = false) :
    Meets (Builtin.«tuple.__mul__» ⟨[.ref l, .int 0 u], []⟩) (fun _ R s => s.heap.get? l = some { cls := .type "tuple", dict := dd, data := .seq items n, slots := sl } ∧
      R (.ok (.ret (Value.ref s.heap.objs.size))) { s with heap := s.heap.push { cls := Value.type "tuple", data := Data.seq #[] } }) :=
  .of_wp fun prog w A R s h => by
    obtain ⟨hp, g, d, tk, os⟩ := s
    obtain ⟨hl, h⟩ := h
    have f1 := AutoSeq1.idx_int
    wp_walk using wpAny_loadPart' hl
    exact ⟨_, rfl, h⟩
theorem vals_ix : ∀ (xs : List V) (us : List Value), xs.length = us.length → (∀ (j : Nat) (x : V) (u : Value), xs[j]? = some x → us[j]? = some u → RelV x u) → Vals xs us
  | [], [], _, _ => .nil
  | [], _ :: _, h, _ => by cases h
  | _ :: _, [], h, _ => by cases h
  | x :: xs, u :: us, h, k => .cons (k 0 x u rfl rfl) (vals_ix xs us (Nat.succ.inj h) fun j y v a b => k (j + 1) y v a b)
/-- xs * k, k nought or one -/
def rRep01 (K : PySem.W.Frag) : R2 := fun x y H Q => ∃ l k xs, x = .ref l ∧ y = .int k ∧ SqT K H l xs ∧ xs ≠ [] ∧ 0 ≤ k ∧ k ≤ 1 ∧ (k = 1 → Q (.ref l) H) ∧ (k = 0 → ∀ p, H p = none → Q (.ref p) (upd H p (.tup [])))
section
variable {X : Cx}
theorem call_listS (hc : X.calm = true) : CallR X (.type "list") (fun xs H Q => ∃ z, xs = [.str z] ∧ z.length ≤ sizeLine ∧ ∀ p, H p = none → Q (.ref p) (upd H p (.lst (z.cps.toList.map fun c => V.str ⟨#[c]⟩)))) := by
  intro pins s σ H xs us Q I r h
  obtain ⟨z, rfl, hz, q⟩ := h
  obtain ⟨u, rfl, t, rfl⟩ := vals1 r
  refine call_list_str (I.ok.hd hc) z t (fun h' tk acc' c' kp e it => ?_) hz
  refine ⟨.ref s.heap.objs.size, _, I.laid (t' := tk) kp (Nat.le_refl _) (show ObjOk X.prog X.w _ h' _ (.lst (z.cps.toList.map fun c => V.str ⟨#[c]⟩)) from ⟨by rw [List.length_map, Array.length_toList]; exact hz, acc'.toList, c', ?_, by simpa using e⟩), rfl, q _ (I.hok.fresh (Nat.le_refl _))⟩
  obtain ⟨i1, i2⟩ := it
  refine vals_ix _ _ (by rw [List.length_map, Array.length_toList, Array.length_toList, i1]) fun j x u a b => ?_
  obtain ⟨c, v, hc', rfl⟩ := i2 j u (by rw [← Array.getElem?_toList]; exact b)
  rw [List.getElem?_map, Array.getElem?_toList, hc'] at a
  cases a
  exact ⟨v, rfl⟩
theorem op_rep01 : OpR X (binaryOp .Mult) (rRep01 X.K) := by
  intro pins s σ H x y v u Q I rx ry h
  obtain ⟨l, k, xs, rfl, rfl, hT, hne, h0, h1, q1, q0⟩ := h
  cases rx
  obtain ⟨t, rfl⟩ := ry
  obtain ⟨its, r, ⟨⟨cls, dd, data, sl⟩, ho, hc, n, hd⟩, hs⟩ := I.tuple hT
  simp only at hc hd
  subst hc hd
  have hle : its.length = xs.length := r.length.symm
  have hi : its.toArray.isEmpty = false := by
    cases its with
    | nil => exact absurd (List.eq_nil_of_length_eq_zero hle.symm) hne
    | cons a b => rfl
  refine wpAny_binaryOp_repeat_ref (T := "tuple") (U := "int") (by decide) ⟨_, ho, rfl⟩ (fun s' => typeIs_int s' k t) noFill_tuple_mul F.fills_int_mul F.slot_int_rmul repeat_tuple F.slot_int_index.lookup
    (call_meets F.slot_int_rmul (typeIs_int s k t) F.entry_int_rmul (F.args_int_rmul_2 _ _) (int_rmul_tuple k t l its.toArray n dd sl) ⟨ho, rfl, ⟨_, ho, rfl⟩, ?_⟩)
  by_cases e : k = 1
  · subst e
    exact call_meets F.slot_tuple_mul ⟨_, ho, rfl⟩ F.entry_tuple_mul (F.args_tuple_mul_2 _ _) (tup_mul01 l its.toArray n dd sl t hi) ⟨ho, .ref l, H, I, rfl, q1 rfl⟩
  · have e : k = 0 := by omega
    subst e
    refine call_meets F.slot_tuple_mul ⟨_, ho, rfl⟩ F.entry_tuple_mul (F.args_tuple_mul_2 _ _) (tup_mul00 l its.toArray n dd sl t hi) ⟨ho, ?_⟩
    refine ⟨.ref s.heap.objs.size, _, I.laid (t' := s.toks) (o := .tup []) (fun b ob q => Heap.get?_push_of_some _ q) (Nat.le_refl _) ?_, rfl, q0 rfl _ (I.hok.fresh (Nat.le_refl _))⟩
    exact ⟨Nat.zero_le _, [], .nil, IsTup.new _ _⟩
end

def L_RESERVED : List V := [.str "class", .str "shared", .str "promise", .str "value", .str "init", .str "method", .str "getter", .str "setter", .str "chained", .str "final", .str "set", .str "keep", .str "read", .str "look", .str "call", .str "super", .str "of", .str "make", .str "fail", .str "try", .str "catch", .str "if", .str "else", .str "either", .str "or", .str "loop"]
def L_STEP_WORDS : List V := [.str "set", .str "keep", .str "read", .str "look", .str "call", .str "of", .str "make", .str "super", .str "fail", .str "loop", .str "if", .str "try", .str "either"]
def L_WITH_CLASS : List V := [.str "of", .str "make"]
def L_WITH_WORD : List V := [.str "set", .str "keep", .str "read", .str "look", .str "call"]
structure Addrs where
  C_RESERVED : Addr
  C_STEP_WORDS : Addr
  C_WITH_CLASS : Addr
  C_WITH_WORD : Addr
  C_BadText : Addr
  C_Reader : Addr
structure Txt (K : PySem.W.Frag) (mg : Str → Option Value) (Z : Addrs) : Prop where
  b_abs : mg "abs" = none
  b_enumerate : mg "enumerate" = none
  b_int : mg "int" = none
  b_isinstance : mg "isinstance" = none
  b_len : mg "len" = none
  b_list : mg "list" = none
  b_max : mg "max" = none
  b_min : mg "min" = none
  b_range : mg "range" = none
  b_str : mg "str" = none
  b_tuple : mg "tuple" = none
  g_BLANKS : ∃ u, mg "BLANKS" = some u ∧ RelV (.str " \n") u
  g_CAPITAL : ∃ u, mg "CAPITAL" = some u ∧ RelV (.str "ABCDEFGHIJKLMNOPQRSTUVWXYZ") u
  g_DEEPEST : ∃ u, mg "DEEPEST" = some u ∧ RelV (.int 6) u
  g_LONGEST : ∃ u, mg "LONGEST" = some u ∧ RelV (.int 8) u
  g_RESERVED : ∃ u, mg "RESERVED" = some u ∧ RelV (.ref Z.C_RESERVED) u
  t_RESERVED : ∀ H : Hp, SqT K H Z.C_RESERVED L_RESERVED
  g_SMALL : ∃ u, mg "SMALL" = some u ∧ RelV (.str "abcdefghijklmnopqrstuvwxyz") u
  g_STEP_WORDS : ∃ u, mg "STEP_WORDS" = some u ∧ RelV (.ref Z.C_STEP_WORDS) u
  t_STEP_WORDS : ∀ H : Hp, SqT K H Z.C_STEP_WORDS L_STEP_WORDS
  g_WITH_CLASS : ∃ u, mg "WITH_CLASS" = some u ∧ RelV (.ref Z.C_WITH_CLASS) u
  t_WITH_CLASS : ∀ H : Hp, SqT K H Z.C_WITH_CLASS L_WITH_CLASS
  g_WITH_WORD : ∃ u, mg "WITH_WORD" = some u ∧ RelV (.ref Z.C_WITH_WORD) u
  t_WITH_WORD : ∀ H : Hp, SqT K H Z.C_WITH_WORD L_WITH_WORD
  k_BadText : mg "BadText" = some (.ref Z.C_BadText)
  x_BadText : OexC K Z.C_BadText
  n_BadText_at : PySem.W.findIn K (.ref Z.C_BadText) "at" = some none
  k_Reader : mg "Reader" = some (.ref Z.C_Reader)
  cl_Reader : Cls K Z.C_Reader
  n_Reader_tokens : NoAttr K Z.C_Reader "tokens"
  n_Reader_length : NoAttr K Z.C_Reader "length"
  n_Reader_place : NoAttr K Z.C_Reader "place"
  d_BadText___init__ : ExI K Z.C_BadText "BadText.__init__" s_BadText___init__ ["self", "at"]
  d_tokens_of : Dfn K mg "tokens_of" s_tokens_of ["text"]
  d_token_end : Dfn K mg "token_end" s_token_end ["text", "at"]
  d_is_letter : Dfn K mg "is_letter" s_is_letter ["character"]
  d_fits_word : Dfn K mg "fits_word" s_fits_word ["text"]
  d_fits_class : Dfn K mg "fits_class" s_fits_class ["text"]
  d_all_small : Dfn K mg "all_small" s_all_small ["text"]
  d_Reader___init__ : Ini K Z.C_Reader "Reader.__init__" s_Reader___init__ ["self", "text"]
  d_Reader_token : Mth K Z.C_Reader "token" "Reader.token" s_Reader_token ["self"]
  d_Reader_position : Mth K Z.C_Reader "position" "Reader.position" s_Reader_position ["self"]
  d_Reader_advance : Mth K Z.C_Reader "advance" "Reader.advance" s_Reader_advance ["self"]
  d_Reader_take : Mth K Z.C_Reader "take" "Reader.take" s_Reader_take ["self", "wanted"]
  d_Reader_take_word : Mth K Z.C_Reader "take_word" "Reader.take_word" s_Reader_take_word ["self"]
  d_Reader_take_class : Mth K Z.C_Reader "take_class" "Reader.take_class" s_Reader_take_class ["self"]
  d_Reader_finish : Mth K Z.C_Reader "finish" "Reader.finish" s_Reader_finish ["self"]
  d_read_body : Dfn K mg "read_body" s_read_body ["reader", "depth"]
  d_read_step : Dfn K mg "read_step" s_read_step ["reader", "depth"]
  d_read_if : Dfn K mg "read_if" s_read_if ["reader", "depth"]
  d_read_try : Dfn K mg "read_try" s_read_try ["reader", "depth"]
  d_read_either : Dfn K mg "read_either" s_read_either ["reader", "depth"]
  d_read_block : Dfn K mg "read_block" s_read_block ["reader", "depth"]
  d_read_braces : Dfn K mg "read_braces" s_read_braces ["reader", "depth"]
  d_read_steps : Dfn K mg "read_steps" s_read_steps ["text"]
  d_write_steps : Dfn K mg "write_steps" s_write_steps ["body"]
  d_write_step : Dfn K mg "write_step" s_write_step ["step"]
  d_write_block : Dfn K mg "write_block" s_write_block ["body"]
  d__law_bag : Dfn K mg "_law_bag" s__law_bag ["script", "at"]
  d__law_draw : Dfn K mg "_law_draw" s__law_draw ["bag", "many"]
  d__law_one : Dfn K mg "_law_one" s__law_one ["bag", "some"]
  d__law_words : Dfn K mg "_law_words" s__law_words ["bag", "many"]
  d__law_labels : Dfn K mg "_law_labels" s__law_labels ["bag", "many"]
  d__law_step : Dfn K mg "_law_step" s__law_step ["bag", "words", "room", "depth"]
  d__law_body : Dfn K mg "_law_body" s__law_body ["bag", "words", "room", "depth"]
  d__law_start : Dfn K mg "_law_start" s__law_start ["bag"]
  d__law_tower : Dfn K mg "_law_tower" s__law_tower ["bag", "names", "body", "many"]
  d__law_block : Dfn K mg "_law_block" s__law_block ["body"]
  d__law_written : Dfn K mg "_law_written" s__law_written ["body"]
  d__law_signs : Dfn K mg "_law_signs" s__law_signs ["body"]
  d__law_curly : Dfn K mg "_law_curly" s__law_curly ["body"]
  d__law_spread : Dfn K mg "_law_spread" s__law_spread ["bag", "tokens"]
/-! ### 1. heaps: what stays, but for one bag -/
def Upto (b : Addr) (H H' : Hp) : Prop := ∀ c o, c ≠ b → H c = some o → H' c = some o
def BagAt (H : Hp) (b : Addr) : Prop := ∃ x y : Int, 0 ≤ x ∧ H b = some (.lst [.int x, .int y])
theorem Upto.refl (b : Addr) (H : Hp) : Upto b H H := fun _ _ _ e => e
theorem Upto.trans {b : Addr} {H H1 H2 : Hp} (u : Upto b H H1) (v : Upto b H1 H2) : Upto b H H2 := fun c o hc e => v c o hc (u c o hc e)
theorem Upto.of {b : Addr} {H H1 : Hp} (u : Same H H1) : Upto b H H1 := fun c o _ e => u c o e
theorem Upto.at {b : Addr} {H : Hp} {o : HO} : Upto b H (upd H b o) := fun c u hc e => by rw [upd_ne hc]; exact e
theorem Same.new {H : Hp} {p : Addr} {o : HO} (h : H p = none) : Same H (upd H p o) := fun c u e => by rw [upd_ne (ne_of_none e h)]; exact e
theorem Upto.new {b : Addr} {H : Hp} {p : Addr} {o : HO} (h : H p = none) : Upto b H (upd H p o) := Upto.of (Same.new h)
theorem Upto.same {b : Addr} {H0 H H' : Hp} (n : H0 b = none) (a : Same H0 H) (u : Upto b H H') : Same H0 H' := fun c o e => u c o (ne_of_none e n) (a c o e)
theorem BagAt.same {b : Addr} {H H' : Hp} (h : BagAt H b) (u : Same H H') : BagAt H' b := by
  obtain ⟨x, y, hx, e⟩ := h
  exact ⟨x, y, hx, u _ _ e⟩
theorem sz {n : Nat} (h : n ≤ 100000) : n ≤ sizeLine := Nat.le_trans h (by decide)
theorem szl {a : List Nat} (h : a.length ≤ 100000) : (S a).length ≤ sizeLine := by rw [S_len]; exact sz h
theorem cutV_mem {xs : List V} {lo hi : Option Int} {v : V} (h : v ∈ cutV xs lo hi) : v ∈ xs := List.mem_of_mem_drop (List.mem_of_mem_take h)
theorem map_at {ns : List Int} {i : Int} (h0 : 0 ≤ i) (h : i < ((ns.map V.int).length : Int)) : ∃ c, atI (ns.map V.int) i = some (V.int c) := by
  have hl : i.toNat < ns.length := by rw [List.length_map] at h; omega
  obtain ⟨j, rfl⟩ : ∃ j : Nat, i = (j : Int) := ⟨i.toNat, by omega⟩
  exact ⟨ns[j], atI_nat (by simp [show j < ns.length by omega])⟩
/-! ### 2. the draws of the law -/
section
variable {P : Program} {w : World} {K : PySem.W.Frag} {mg : Str → Option Value} {base : Heap} {Z : Addrs}
def spBag (K : PySem.W.Frag) : Sp := fun vs H Q _ => ∃ (a : Addr) (ns : List Int) (i : Int), vs = [.ref a, .int i] ∧ SqL K H a (ns.map V.int) ∧ 0 ≤ i ∧
  ∀ p H', H p = none → Same H H' → BagAt H' p → Q (.ref p) H'
theorem c__law_bag (T : Txt K mg Z) : Cal P w K mg base 1 "_law_bag" (spBag K) [] := by
  refine cal_of T.d__law_bag sc__law_bag (fun vs H Q E h => ?_) (fun f cdv A outer s H vs Q E hr h => ?_)
  · obtain ⟨a, ns, i, rfl, _⟩ := h
    rfl
  · obtain ⟨a, ns, i, rfl, hS, i0, k⟩ := h
    refine ⟨_, (C8.pss_cut (ps_set (i := 2) sc__law_bag.nd rfl (by first | exact Or.inl rfl | exact Or.inr rfl) (pe_ifExp (pt_cmpR op_lt (pv 1) (pe_callB call_len_seq (by rfl) T.b_len (by decide +kernel) (pa_cons (pv 0) pa_nil)) (nomark _)) (pe_ix ix_list (pv 0) (pv 1) (fun _ _ => rfl)) pe_int))
      (pss_cons (ps_set (i := 3) sc__law_bag.nd rfl (by first | exact Or.inl rfl | exact Or.inr rfl) (pe_op op_add (pe_op op_mul pe_int (pv 1)) pe_int))
      (pss_cons (ps_for PassesOwn.never rfl (pi_enum rfl T.b_enumerate (pa_cons (pe_slice sl_list (pv 0) po_none (po_some pe_int)) pa_nil)) (pg_tup (by rfl) (pgs_cons (pg_name (i := 4) sc__law_bag.nd rfl (by first | exact Or.inl rfl | exact Or.inr rfl)) (pgs_cons (pg_name (i := 5) sc__law_bag.nd rfl (by first | exact Or.inl rfl | exact Or.inr rfl)) pgs_nil))) (pss_one (ps_set (i := 3) sc__law_bag.nd rfl (by first | exact Or.inl rfl | exact Or.inr rfl) (pe_op op_mod (pe_callTy call_int1 (by rfl) T.b_int (by decide +kernel) (pa_cons (pe_op op_add (pe_op op_add (pe_op op_mul (pv 3) pe_int) (pe_op op_mod (pe_callTy call_int1 (by rfl) T.b_int (by decide +kernel) (pa_cons (pv 5) pa_nil)) pe_int)) (pe_op op_mul pe_int (pv 4))) pa_nil)) pe_int))))
      (pss_one (ps_ret (pe_lst (pa_cons (pe_ifExp (pt_cmpR op_ge (pe_callB call_abs (by rfl) T.b_abs (by decide +kernel) (pa_cons (pv 2) pa_nil)) (pe_op op_pow pe_int pe_int) (nomark _)) (pe_callB call_abs (by rfl) T.b_abs (by decide +kernel) (pa_cons (pv 2) pa_nil)) pe_int) (pa_cons (pv 3) pa_nil)))))))), ?_⟩
    -- cell = script[at] if at < len(script) else 0
    refine ⟨fun σ' H' => H' = H ∧ ∃ c : Int, σ' = [some (.ref a), some (.int i), some (.int c), none, none, none], ?_, ?_⟩
    · refine ⟨_, rfl, _, rfl, a, _, rfl, .inl hS, _, _, rfl, rfl, _, rfl, ?_⟩
      refine ite2 (fun h1 => ?_) (fun h1 => ?_)
      · obtain ⟨c, hc⟩ := map_at i0 (of_decide_eq_true h1)
        exact ⟨_, rfl, _, rfl, a, _, i, _, rfl, rfl, hS, hc, rfl, c, rfl⟩
      · exact ⟨rfl, 0, rfl⟩
    rintro σ' H' ⟨rfl, c, rfl⟩
    -- seed = 6151 * at + 389
    refine ⟨_, rfl, _, _, rfl, rfl, .inl ⟨by decide, by decide⟩, _, _, rfl, rfl, ?_⟩
    -- for turn, each in enumerate(script[:63])
    refine ⟨_, rfl, 63, rfl, a, _, rfl, hS, fun p hp => ?_⟩
    refine ⟨p, _, rfl, SqL.of upd_same, for_it walk_enum (fun j σ H2 => ∃ (z : Int) (u v : Option V), σ = [some (.ref a), some (.int i), some (.int c), some (.int z), u, v] ∧ Same H' H2 ∧ H2 p = some (.lst (cutV (ns.map V.int) none (some 63))))
      ⟨_, none, none, rfl, Same.new hp, upd_same⟩ (fun _ _ _ _ ⟨_, _, _, _, _, e⟩ => SqL.of e) ?_ ?_⟩
    · rintro j x σ H2 H3 hj ⟨z, u, v, rfl, s2, e2⟩ ⟨T0, x1, x2, rfl, hT, rfl, q1, q2⟩
      cases q1
      obtain ⟨n, hn, rfl⟩ : ∃ n, n ∈ ns ∧ V.int n = x2 := List.mem_map.mp (cutV_mem (List.mem_of_getElem? q2))
      refine ⟨T0, _, rfl, SqT.of upd_same, rfl, _, _, rfl, _, _, rfl, rfl, ?_⟩
      refine ⟨_, rfl, _, _, rfl, rfl, .inr ⟨by decide, by decide⟩, _, rfl, .inl ⟨_, rfl, _, _, rfl, rfl, (by show (0 : Int) < 2147483579; decide), _, _, rfl, rfl, _, rfl, _, _, rfl, rfl, .inl ⟨by decide, by decide⟩, _, _, rfl, rfl, .inl ⟨_, rfl, _, _, rfl, rfl, (by show (0 : Int) < 2147483423; decide), ?_⟩⟩⟩
      exact ⟨_, _, _, rfl, s2.trans (Same.new hT), by rw [upd_ne (ne_of_none e2 hT)]; exact e2⟩
    -- return [abs(cell) if abs(cell) >= 10 ** 18 else 0, seed]
    rintro σ H2 ⟨z, u, v, rfl, s2, e2⟩
    refine ⟨_, rfl, _, rfl, 10, 18, rfl, rfl, ⟨by decide, by decide, by decide⟩, _, _, rfl, rfl, _, rfl, ?_⟩
    have ab : (0 : Int) ≤ if c < 0 then -c else c := by split <;> omega
    refine ite2 (fun _ => ?_) (fun _ => ?_)
    · refine ⟨_, rfl, _, rfl, _, rfl, (by show 2 ≤ sizeLine; decide), fun q hq => ?_⟩
      exact k q _ (s2.free hq) (s2.trans (Same.new hq)) ⟨_, _, ab, upd_same⟩
    · refine ⟨_, rfl, (by show 2 ≤ sizeLine; decide), fun q hq => ?_⟩
      exact k q _ (s2.free hq) (s2.trans (Same.new hq)) ⟨_, _, Int.le_refl 0, upd_same⟩

def spDraw : Sp := fun vs H Q _ => ∃ (b : Addr) (m : Int), vs = [.ref b, .int m] ∧ BagAt H b ∧ 0 < m ∧ m.natAbs < 2 ^ 9000 ∧
  ∀ (d : Int) H', 0 ≤ d → d < m → Upto b H H' → BagAt H' b → Q (.int d) H'
theorem c__law_draw (T : Txt K mg Z) : Cal P w K mg base 1 "_law_draw" spDraw [] := by
  refine cal_of T.d__law_draw sc__law_draw (fun vs H Q E h => ?_) (fun f cdv A outer s H vs Q E hr h => ?_)
  · obtain ⟨b, m, rfl, _⟩ := h
    rfl
  · obtain ⟨b, m, rfl, ⟨x, y, hx, hb⟩, m0, m1, k⟩ := h
    have wd : CDivW x m := wide_div m0 m1 (by decide) (by decide)
    have w13 : ∀ z : Int, CDivW z 13 := fun z => wide_div (b := 4) (by decide) (by decide) (by decide) (by decide)
    have w32 : ∀ z : Int, CDivW z 32 := fun z => wide_div (b := 6) (by decide) (by decide) (by decide) (by decide)
    refine ⟨_, (pss_cons (ps_if (pt_cmpR op_gt (pe_ix ix_list (pv 0) pe_int (fun _ _ => rfl)) pe_int (nomark _)) (pss_cons (ps_set (i := 2) sc__law_draw.nd rfl (by first | exact Or.inl rfl | exact Or.inr rfl) (pe_op op_mod (pe_callTy call_int1 (by rfl) T.b_int (by decide +kernel) (pa_cons (pe_ix ix_list (pv 0) pe_int (fun _ _ => rfl)) pa_nil)) (pv 1)))
      (pss_cons (ps_asg (pe_op op_fdivW (pe_ix ix_list (pv 0) pe_int (fun _ _ => rfl)) (pv 1)) (pg_sub (pv 0) pe_int set_list))
      (pss_one (ps_ret (pv 2))))) pss_nil)
      (pss_cons (ps_asg (pe_op op_mod (pe_callTy call_int1 (by rfl) T.b_int (by decide +kernel) (pa_cons (pe_op op_add (pe_op op_mul (pe_ix ix_list (pv 0) pe_int (fun _ _ => rfl)) pe_int) pe_int) pa_nil)) pe_int) (pg_sub (pv 0) pe_int set_list))
      (pss_one (ps_ret (pe_op op_mod (pe_op op_fdivW (pe_op op_mod (pe_callTy call_int1 (by rfl) T.b_int (by decide +kernel) (pa_cons (pe_op op_mul (pe_op op_fdivW (pe_ix ix_list (pv 0) pe_int (fun _ _ => rfl)) pe_int) pe_int) pa_nil)) pe_int) pe_int) (pv 1)))))), ?_⟩
    refine ⟨_, rfl, b, _, 0, _, rfl, rfl, SqL.of hb, rfl, _, _, rfl, rfl, _, rfl, ?_⟩
    refine ite2 (fun h1 => ?_) (fun h1 => ?_)
    · refine ⟨_, rfl, b, _, 0, _, rfl, rfl, SqL.of hb, rfl, .inl ⟨_, rfl, _, rfl, _, _, rfl, rfl, m0, ?_⟩⟩
      refine ⟨_, rfl, b, _, 0, _, rfl, rfl, SqL.of hb, rfl, _, rfl, _, _, rfl, rfl, wd, _, rfl, b, _, _, 0, rfl, rfl, hb, rfl, ?_⟩
      refine ⟨_, rfl, ?_⟩
      refine k _ _ (Int.emod_nonneg _ (by omega)) (Int.emod_lt_of_pos _ m0) Upto.at ⟨_, _, ?_, upd_same⟩
      exact Int.ediv_nonneg hx (by omega)
    · refine ⟨_, rfl, b, _, 1, _, rfl, rfl, SqL.of hb, rfl, _, _, rfl, rfl, .inr ⟨by decide, by decide⟩, _, _, rfl, rfl, .inl ⟨_, rfl, _, _, rfl, rfl, (by show (0 : Int) < 2147483647; decide), _, rfl, b, _, _, 1, rfl, rfl, hb, rfl, ?_⟩⟩
      refine ⟨_, rfl, b, _, 1, _, rfl, rfl, SqL.of upd_same, rfl, _, _, rfl, rfl, w13 _, _, _, rfl, rfl, .inr ⟨by decide, by decide⟩, .inl ⟨_, rfl, _, _, rfl, rfl, (by show (0 : Int) < 2147483629; decide), _, _, rfl, rfl, w32 _, _, rfl, _, _, rfl, rfl, m0, ?_⟩⟩
      exact k _ _ (Int.emod_nonneg _ (by omega)) (Int.emod_lt_of_pos _ m0) Upto.at ⟨_, _, hx, upd_same⟩

/-- some[draw]: a value of the list -/
def spOne (K : PySem.W.Frag) : Sp := fun vs H Q _ => ∃ (b l : Addr) (xs : List V), vs = [.ref b, .ref l] ∧ BagAt H b ∧ l ≠ b ∧ H l = some (.lst xs) ∧ 0 < xs.length ∧ xs.length ≤ 100000 ∧
  ∀ (v : V) H', v ∈ xs → Upto b H H' → BagAt H' b → Q v H'
theorem c__law_one (T : Txt K mg Z) : Cal P w K mg base 2 "_law_one" (spOne K) [] := by
  have c__law_draw : Cal P w K mg base 1 "_law_draw" spDraw [] := c__law_draw T
  refine cal_of T.d__law_one sc__law_one (fun vs H Q E h => ?_) (fun f cdv A outer s H vs Q E hr h => ?_)
  · obtain ⟨b, l, xs, rfl, _⟩ := h
    rfl
  · obtain ⟨b, l, xs, rfl, B, hlb, hl, l0, l1, k⟩ := h
    refine ⟨_, (pss_one (ps_ret (pe_ix ix_list (pv 1) (pe_c c__law_draw hr (by omega) rfl (pa_cons (pv 0) (pa_cons (pe_callB call_len_seq (by rfl) T.b_len (by decide +kernel) (pa_cons (pv 1) pa_nil)) pa_nil))) (fun _ _ => rfl)))), ?_⟩
    refine ⟨_, rfl, _, rfl, _, rfl, l, xs, rfl, .inl (SqL.of hl), b, _, rfl, B, by omega, Nat.lt_of_le_of_lt (by rw [Int.natAbs_natCast]; exact l1) (by decide +kernel : 100000 < 2 ^ 9000), fun d H' d0 d1 u B' => ?_⟩
    have hd : d.toNat < xs.length := by omega
    have e : atI xs d = some xs[d.toNat] := by
      have e : d = ((d.toNat : Nat) : Int) := by omega
      conv => lhs; rw [e]
      exact atI_nat (by simp [hd])
    exact ⟨l, xs, d, _, rfl, rfl, SqL.of (u l _ hlb hl), e, k _ _ (List.getElem_mem hd) u B'⟩
end

/-! ### 3. words and keys: the program -/
def smallC (c : Nat) : Bool := decide (c ∈ ("abcdefghijklmnopqrstuvwxyz" : Str).cps.toList)
def smallL (a : List Nat) : Bool := a.all smallC
def resV : List V := [.str "class", .str "shared", .str "promise", .str "value", .str "init", .str "method", .str "getter", .str "setter", .str "chained", .str "final", .str "set", .str "keep", .str "read", .str "look", .str "call", .str "super", .str "of", .str "make", .str "fail", .str "try", .str "catch", .str "if", .str "else", .str "either", .str "or", .str "loop"]
def wordL (a : List Nat) : Bool := decide (1 ≤ (a.length : Int)) && (decide ((a.length : Int) ≤ 8) && (smallL a && !inV (.str (S a)) resV))
theorem smallL_take {a : List Nat} {i : Nat} {c : Nat} (h : a[i]? = some c) (s : smallL (a.take i) = true) (hc : smallC c = true) : smallL (a.take (i + 1)) = true := by
  unfold smallL at s ⊢
  rw [List.take_add_one, List.all_append, s, h]
  simp [hc]
theorem smallL_no {a : List Nat} {i : Nat} {c : Nat} (h : a[i]? = some c) (hc : smallC c = false) : smallL a = false := by
  cases e : smallL a with
  | false => rfl
  | true =>
    have := List.all_eq_true.mp e c (List.mem_of_getElem? h)
    rw [hc] at this
    cases this
/-- what isinstance(v, str) asks -/
def StrOr (K : PySem.W.Frag) (H : Hp) (v : V) (z : Option (List Nat)) : Prop := ∃ t, TyX K H v t ∧ PySem.W.kitOne K t (.type "str") = some z.isSome ∧ ∀ a, z = some a → v = .str (S a) ∧ a.length ≤ 100000
section
variable {P : Program} {w : World} {K : PySem.W.Frag} {mg : Str → Option Value} {base : Heap} {Z : Addrs}
def spSmall : Sp := fun vs H Q _ => ∃ a, vs = [.str (S a)] ∧ ∀ H', Same H H' → Q (.bl (smallL a)) H'
theorem c_all_small (T : Txt K mg Z) : Cal P w K mg base 1 "all_small" spSmall [] := by
  refine cal_of T.d_all_small sc_all_small (fun vs H Q E h => ?_) (fun f cdv A outer s H vs Q E hr h => ?_)
  · obtain ⟨a, rfl, _⟩ := h
    rfl
  · obtain ⟨a, rfl, k⟩ := h
    refine ⟨_, (pss_cons (ps_for PassesOwn.never rfl (pi_str (pv 0)) (pg_name (i := 1) sc_all_small.nd rfl (by first | exact Or.inl rfl | exact Or.inr rfl)) (pss_one (ps_if (pt_cmpR op_notIn_sign (pv 1) (pe_gc rfl T.g_SMALL) (by rfl)) (pss_one (ps_ret pe_bl)) pss_nil)))
      (pss_one (ps_ret pe_bl))), ?_⟩
    refine ⟨_, rfl, S a, rfl, for_it walk_str (fun i σ H1 => (∃ v, σ = [some (.str (S a)), v]) ∧ H1 = H ∧ smallL (a.take i) = true) ⟨⟨none, rfl⟩, rfl, rfl⟩ (fun _ _ _ _ _ => trivial) ?_ ?_⟩
    · rintro i x σ H1 H2 hi ⟨⟨v, rfl⟩, rfl, hs⟩ ⟨rfl, c, hc, rfl⟩
      have hc' : a[i]? = some c := by simpa using hc
      refine ⟨_, rfl, c, _, rfl, rfl, _, rfl, ?_⟩
      refine ite2 (fun h1 => ?_) (fun h1 => ?_)
      · have hf : smallC c = false := by simpa [smallC] using h1
        have := k H2 (Same.refl _)
        rw [smallL_no hc' hf] at this
        exact this
      · have hf : smallC c = true := by simpa [smallC] using h1
        exact ⟨⟨_, rfl⟩, rfl, smallL_take hc' hs hf⟩
    · rintro σ H1 ⟨⟨v, rfl⟩, rfl, hs⟩
      have := k H1 (Same.refl _)
      rw [show smallL a = true by rw [← hs]; simp] at this
      exact this

def spWord : Sp := fun vs H Q _ => ∃ a, vs = [.str (S a)] ∧ a.length ≤ 100000 ∧ ∀ H', Same H H' → Q (.bl (wordL a)) H'
theorem c_fits_word (T : Txt K mg Z) : Cal P w K mg base 2 "fits_word" spWord [] := by
  have c_all_small : Cal P w K mg base 1 "all_small" spSmall [] := c_all_small T
  refine cal_of T.d_fits_word sc_fits_word (fun vs H Q E h => ?_) (fun f cdv A outer s H vs Q E hr h => ?_)
  · obtain ⟨a, rfl, _⟩ := h
    rfl
  · obtain ⟨a, rfl, hl, k⟩ := h
    have k' : ∀ b H', Same H H' → wordL a = b → Q (.bl b) H' := fun b H' e h => h ▸ k H' e
    refine ⟨_, (pss_one (ps_ret (pe_and (pe_chain op_le op_le pe_int (pe_callB call_len_str (by rfl) T.b_len (by decide +kernel) (pa_cons (pv 0) pa_nil)) (pe_gc rfl T.g_LONGEST)) (pe_and (pe_c c_all_small hr (by omega) rfl (pa_cons (pv 0) pa_nil)) (pe_one (pe_cmpR op_notIn_seq (pv 0) (pe_gc rfl T.g_RESERVED) (by with_unfolding_all rfl))))))), ?_⟩
    refine ⟨_, rfl, S a, rfl, szl hl, _, _, rfl, rfl, _, rfl, ?_⟩
    rw [S_len]
    refine ite2 (fun h1 => ?_) (fun h1 => ?_)
    · refine ⟨_, _, rfl, rfl, _, rfl, ?_⟩
      refine ite2 (fun h2 => ?_) (fun h2 => ?_)
      · refine ⟨_, rfl, a, rfl, fun H1 e1 => ⟨_, rfl, ?_⟩⟩
        refine ite2 (fun h3 => ?_) (fun h3 => ?_)
        · refine ⟨_, rfl, Z.C_RESERVED, resV, rfl, .inr (T.t_RESERVED H1), rfl, rfl, ?_⟩
          exact k' _ _ e1 (by simp [wordL, of_decide_eq_true h1, of_decide_eq_true h2, h3])
        · exact k' _ _ e1 (by simp [wordL, of_decide_eq_true h1, of_decide_eq_true h2, h3])
      · exact k' _ _ (Same.refl _) (by simp only [decide_eq_true_eq] at h2; simp [wordL, h2])
    · refine ⟨_, rfl, iteF ?_⟩
      exact k' _ _ (Same.refl _) (by simp only [decide_eq_true_eq] at h1; simp only [wordL, h1]; simp)

end

/-! ### 3b. tokens -/
def capC (c : Nat) : Bool := decide (c ∈ ("ABCDEFGHIJKLMNOPQRSTUVWXYZ" : Str).cps.toList)
def isL (c : Nat) : Bool := smallC c || capC c
def blC (c : Nat) : Bool := decide (c ∈ (" \n" : Str).cps.toList)
def classL (a : List Nat) : Bool := decide (1 ≤ (a.length : Int)) && (decide ((a.length : Int) ≤ 8) && ((a.head?.elim false capC) && smallL (a.drop 1)))
abbrev Tok := Nat × List Nat
/-- the end of the token, or of the blank, that begins at i -/
def tokEnd (a : List Nat) (i : Nat) : Nat := i + 1 + (if (a[i]?.elim false isL) = true then ((a.drop (i + 1)).takeWhile isL).length else 0)
def tokF (a : List Nat) : Nat → Nat → List Tok
  | 0, _ => []
  | f + 1, i => if i < a.length then (if (a[i]?.elim false blC) = true then tokF a f (tokEnd a i) else (i, (a.drop i).take (tokEnd a i - i)) :: tokF a f (tokEnd a i)) else []
def toks (a : List Nat) : List Tok := tokF a a.length 0
theorem tokEnd_gt (a : List Nat) (i : Nat) : i < tokEnd a i := by unfold tokEnd; omega
theorem tokEnd_le {a : List Nat} {i : Nat} (h : i < a.length) : tokEnd a i ≤ a.length := by
  unfold tokEnd
  split
  · have h1 : ((a.drop (i + 1)).takeWhile isL).length ≤ (a.drop (i + 1)).length := (List.takeWhile_sublist _).length_le
    rw [List.length_drop] at h1
    omega
  · omega
theorem slice_mid {a : List Nat} {i j : Nat} (h : i ≤ j) (hj : j ≤ a.length) : Txt.slice (S a) (some (i : Int)) (some (j : Int)) = S ((a.drop i).take (j - i)) := by
  have e := beq_iff_eq.mp (slice_closesL (x := S a) (i := (i : Int)) (j := (j : Int)) (by omega) (by omega) (by rw [S_len a]; omega))
  rw [e]
  have e1 : ((j : Int) - (i : Int)).toNat = j - i := by omega
  rw [e1]
  show (⟨((a.drop i).take (j - i)).toArray⟩ : Str) = _
  rfl
theorem takeWhile_ext {p : Nat → Bool} {l : List Nat} {n : Nat} (h : ∀ k, k < n → ∃ c, l[k]? = some c ∧ p c = true) (hn : ∀ c, l[n]? = some c → p c = false) : (l.takeWhile p).length = n := by
  induction l generalizing n with
  | nil =>
    cases n with
    | zero => rfl
    | succ n =>
      obtain ⟨c, hc, _⟩ := h 0 (Nat.succ_pos _)
      simp at hc
  | cons x l ih =>
    cases n with
    | zero =>
      have := hn x rfl
      rw [List.takeWhile_cons, this]
      rfl
    | succ n =>
      obtain ⟨c, hc, hp⟩ := h 0 (Nat.succ_pos _)
      simp at hc
      subst hc
      rw [List.takeWhile_cons, hp]
      have := ih (n := n) (fun k hk => by simpa using h (k + 1) (by omega)) (fun c hc => hn c (by simpa using hc))
      simp [this]
section
variable {P : Program} {w : World} {K : PySem.W.Frag} {mg : Str → Option Value} {base : Heap} {Z : Addrs}
def spLetter : Sp := fun vs H Q _ => ∃ c, vs = [.str (S [c])] ∧ Q (.bl (isL c)) H
theorem c_is_letter (T : Txt K mg Z) : Cal P w K mg base 1 "is_letter" spLetter [] := by
  refine cal_of T.d_is_letter sc_is_letter (fun vs H Q E h => ?_) (fun f cdv A outer s H vs Q E hr h => ?_)
  · obtain ⟨a, rfl, _⟩ := h
    rfl
  · obtain ⟨c, rfl, k⟩ := h
    refine ⟨_, (pss_one (ps_ret (pe_or (pe_cmpR op_in_sign (pv 0) (pe_gc rfl T.g_SMALL) (by rfl)) (pe_one (pe_cmpR op_in_sign (pv 0) (pe_gc rfl T.g_CAPITAL) (by rfl)))))), ?_⟩
    refine ⟨_, rfl, c, _, rfl, rfl, _, rfl, ?_⟩
    refine ite2 (fun h1 => ?_) (fun h1 => ?_)
    · have h1' : smallC c = true := h1
      simp only [isL, h1', Bool.true_or] at k
      exact k
    · have h1' : smallC c = false := by simpa [smallC] using h1
      refine ⟨_, rfl, c, _, rfl, rfl, ?_⟩
      simp only [isL, h1', Bool.false_or] at k
      exact k
def spTokEnd : Sp := fun vs H Q _ => ∃ (a : List Nat) (i : Nat), vs = [.str (S a), .int (i : Int)] ∧ a.length ≤ 100000 ∧ i < a.length ∧ Q (.int (tokEnd a i : Int)) H
theorem c_token_end (T : Txt K mg Z) : Cal P w K mg base 2 "token_end" spTokEnd [] := by
  have c_is_letter : Cal P w K mg base 1 "is_letter" spLetter [] := c_is_letter T
  refine cal_of T.d_token_end sc_token_end (fun vs H Q E h => ?_) (fun f cdv A outer s H vs Q E hr h => ?_)
  · obtain ⟨a, i, rfl, _⟩ := h
    rfl
  · obtain ⟨a, i, rfl, hl, hi, k⟩ := h
    refine ⟨_, (pss_cons (ps_set (i := 2) sc_token_end.nd rfl (by first | exact Or.inl rfl | exact Or.inr rfl) (pe_op op_add (pv 1) pe_int))
      (C8.pss_cut (ps_if (pt_val (pe_c c_is_letter hr (by omega) rfl (pa_cons (pe_ix ix_str (pv 0) (pv 1) (fun _ _ => rfl)) pa_nil))) (pss_one (ps_while PassesOwn.never (PW.pt (pw_and (pt_cmpR op_lt (pv 2) (pe_callB call_len_str (by rfl) T.b_len (by decide +kernel) (pa_cons (pv 0) pa_nil)) (nomark _)) (pw_and1 (pt_val (pe_c c_is_letter hr (by omega) rfl (pa_cons (pe_ix ix_str (pv 0) (pv 2) (fun _ _ => rfl)) pa_nil)))))) (pss_one (ps_set (i := 2) sc_token_end.nd rfl (by first | exact Or.inl rfl | exact Or.inr rfl) (pe_op op_add (pv 2) pe_int))))) pss_nil)
      (pss_one (ps_ret (pv 2))))), ?_⟩
    have hc : a[i]? = some a[i] := by simp [hi]
    refine ⟨_, rfl, _, _, rfl, rfl, ?_⟩
    refine ⟨fun σ H1 => H1 = H ∧ σ = [some (.str (S a)), some (.int (i : Int)), some (.int (tokEnd a i : Int))], ?_, ?_⟩
    · refine ⟨_, rfl, _, rfl, S a, _, _, rfl, rfl, szl hl, atI_nat hc, a[i], rfl, _, rfl, ?_⟩
      refine ite2 (fun h1 => ?_) (fun h1 => ?_)
      · -- while end < len(text) and is_letter(text[end])
        refine ⟨fun m σ H1 => H1 = H ∧ ∃ n : Nat, σ = [some (.str (S a)), some (.int (i : Int)), some (.int ((i + 1 + n : Nat) : Int))] ∧ i + 1 + n ≤ a.length ∧ m = a.length - n ∧ ∀ k, k < n → ∃ c, (a.drop (i + 1))[k]? = some c ∧ isL c = true,
          ⟨_, rfl, 0, rfl, by omega, rfl, fun k hk => absurd hk (Nat.not_lt_zero _)⟩, ?_⟩
        · rintro m σ H1 ⟨rfl, n, rfl, hn, rfl, hk⟩
          refine ⟨_, rfl, _, rfl, S a, rfl, szl hl, _, _, rfl, rfl, _, rfl, ?_⟩
          rw [S_len]
          have fin : (∀ c, (a.drop (i + 1))[n]? = some c → isL c = false) → tokEnd a i = i + 1 + n := fun hz => by
            unfold tokEnd
            rw [hc]
            have h1' : isL a[i] = true := h1
            simp only [Option.elim_some, h1', if_true]
            rw [takeWhile_ext hk hz]
          refine ite2 (fun h2 => ?_) (fun h2 => ?_)
          · have h2' : i + 1 + n < a.length := by have := of_decide_eq_true h2; omega
            have hc2 : a[i + 1 + n]? = some a[i + 1 + n] := by simp [h2']
            refine ⟨_, rfl, _, rfl, S a, _, _, rfl, rfl, szl hl, atI_nat hc2, a[i + 1 + n], rfl, _, rfl, ?_⟩
            refine ite2 (fun h3 => ?_) (fun h3 => ?_)
            · refine ⟨fun σ' H' => ∃ m', m' < a.length - n ∧ (H' = H1 ∧ ∃ n : Nat, σ' = [some (.str (S a)), some (.int (i : Int)), some (.int ((i + 1 + n : Nat) : Int))] ∧ i + 1 + n ≤ a.length ∧ m' = a.length - n ∧ ∀ k, k < n → ∃ c, (a.drop (i + 1))[k]? = some c ∧ isL c = true), fun _ _ h => h, ?_⟩
              refine ⟨_, rfl, _, _, rfl, rfl, ?_⟩
              refine ⟨_, by omega, rfl, n + 1, rfl, by omega, rfl, fun k hk' => ?_⟩
              · by_cases e : k = n
                · subst e
                  exact ⟨a[i + 1 + k], by simp [h2'], h3⟩
                · exact hk k (by omega)
            · have h3' : isL a[i + 1 + n] = false := by simpa using h3
              have e := fin fun c hz => by
                have : a[i + 1 + n]? = some c := by simpa using hz
                rw [hc2] at this
                cases this
                exact h3'
              exact ⟨rfl, by rw [e]⟩
          · have h2' : ¬ i + 1 + n < a.length := by simp only [decide_eq_true_eq] at h2; omega
            have e := fin fun c hz => by
              have : a[i + 1 + n]? = some c := by simpa using hz
              rw [List.getElem?_eq_none (by omega)] at this
              cases this
            exact ⟨rfl, by rw [e]⟩
      · refine ⟨rfl, ?_⟩
        have h1' : isL a[i] = false := by simpa using h1
        have e : tokEnd a i = i + 1 := by
          unfold tokEnd
          rw [hc]
          simp [h1']
        rw [e]
        rfl
    · rintro σ H1 ⟨rfl, rfl⟩
      exact ⟨_, rfl, k⟩
end

structure ToksAt (H : Hp) (p : Addr) (tk : List Tok) : Prop where
  ex : ∃ rows : List Addr, H p = some (.lst (rows.map V.ref)) ∧ rows.length = tk.length ∧ ∀ (j : Nat) (q : Addr) (t : Tok), rows[j]? = some q → tk[j]? = some t → H q = some (.tup [.int (t.1 : Int), .str (S t.2)])
theorem ToksAt.same {H H' : Hp} {p : Addr} {tk : List Tok} (h : ToksAt H p tk) (e : Same H H') : ToksAt H' p tk := by
  obtain ⟨rows, h1, h2, h3⟩ := h.ex
  exact ⟨rows, e _ _ h1, h2, fun j q t a b => e _ _ (h3 j q t a b)⟩
theorem ToksAt.push {H : Hp} {p q : Addr} {tk : List Tok} {rows : List Addr} {t : Tok} (h1 : H p = some (.lst (rows.map V.ref))) (h2 : rows.length = tk.length)
    (h3 : ∀ (j : Nat) (q : Addr) (t : Tok), rows[j]? = some q → tk[j]? = some t → H q = some (.tup [.int (t.1 : Int), .str (S t.2)])) (hq : H q = none) {H' : Hp}
    (e : H' = upd (upd H q (.tup [.int (t.1 : Int), .str (S t.2)])) p (.lst (rows.map V.ref ++ [.ref q]))) : ToksAt H' p (tk ++ [t]) := by
  subst e
  refine ⟨rows ++ [q], by rw [upd_same]; simp, by simp [h2], fun j x u a b => ?_⟩
  have key : ∀ {y : Addr} {o : HO}, H y = some o → (∀ l, o ≠ .lst l) → y ≠ q ∧ y ≠ p := fun {y o} hy hl => ⟨ne_of_none hy hq, fun z => by subst z; rw [hy] at h1; exact hl _ (Option.some.inj h1)⟩
  by_cases hj : j < rows.length
  · rw [List.getElem?_append_left hj] at a
    rw [List.getElem?_append_left (by omega)] at b
    have := h3 j x u a b
    obtain ⟨n1, n2⟩ := key this (fun l z => by cases z)
    rw [upd_ne n2, upd_ne n1]
    exact this
  · have hlen : j < (rows ++ [q]).length := (List.getElem?_eq_some_iff.mp a).1
    have ej : j = rows.length := by simp at hlen; omega
    subst ej
    have a' : q = x := by simpa using a
    rw [h2] at b
    have b' : t = u := by simpa using b
    subst a' b'
    have hqp : q ≠ p := fun z => by subst z; rw [h1] at hq; cases hq
    rw [upd_ne hqp]
    exact upd_same
theorem tokF_len (a : List Nat) : ∀ f i, (tokF a f i).length ≤ f
  | 0, _ => Nat.le_refl _
  | f + 1, i => by
    unfold tokF
    have ih := tokF_len a f (tokEnd a i)
    split
    · split
      · omega
      · simp; omega
    · simp
theorem toks_len (a : List Nat) : (toks a).length ≤ a.length := tokF_len a _ _
theorem tokF_le (a : List Nat) : ∀ f i, ∀ t ∈ tokF a f i, t.2.length ≤ a.length
  | 0, _, _, h => by cases h
  | f + 1, i, t, h => by
    unfold tokF at h
    split at h
    · split at h
      · exact tokF_le a f _ t h
      · rcases List.mem_cons.mp h with rfl | h
        · simp; omega
        · exact tokF_le a f _ t h
    · cases h
section
variable {P : Program} {w : World} {K : PySem.W.Frag} {mg : Str → Option Value} {base : Heap} {Z : Addrs}
def spToks : Sp := fun vs H Q _ => ∃ (a : List Nat), vs = [.str (S a)] ∧ a.length ≤ 100000 ∧ ∀ p H', H p = none → Same H H' → ToksAt H' p (toks a) → Q (.ref p) H'
theorem c_tokens_of (T : Txt K mg Z) : Cal P w K mg base 3 "tokens_of" spToks [] := by
  have c_token_end : Cal P w K mg base 2 "token_end" spTokEnd [] := c_token_end T
  refine cal_of T.d_tokens_of sc_tokens_of (fun vs H Q E h => ?_) (fun f cdv A outer s H vs Q E hr h => ?_)
  · obtain ⟨a, rfl, _⟩ := h
    rfl
  · obtain ⟨a, rfl, hl, k⟩ := h
    refine ⟨_, (pss_cons (ps_set (i := 1) sc_tokens_of.nd rfl (by first | exact Or.inl rfl | exact Or.inr rfl) (pe_lst pa_nil))
      (pss_cons (ps_set (i := 2) sc_tokens_of.nd rfl (by first | exact Or.inl rfl | exact Or.inr rfl) pe_int)
      (pss_cons (ps_while PassesOwn.never (pt_cmpR op_lt (pv 2) (pe_callB call_len_str (by rfl) T.b_len (by decide +kernel) (pa_cons (pv 0) pa_nil)) (nomark _)) (pss_cons (ps_set (i := 3) sc_tokens_of.nd rfl (by first | exact Or.inl rfl | exact Or.inr rfl) (pe_c c_token_end hr (by omega) rfl (pa_cons (pv 0) (pa_cons (pv 2) pa_nil))))
      (C8.pss_cut (ps_if (pt_cmpR op_notIn_sign (pe_ix ix_str (pv 0) (pv 2) (fun _ _ => rfl)) (pe_gc rfl T.g_BLANKS) (by rfl)) (pss_one (ps_expr (pe_bm PySem.F.plainAttrs_list PySem.F.slot_list_append PySem.F.type_list_append mt_append (pv 1) (pa_cons (pe_tup (pa_cons (pv 2) (pa_cons (pe_slice C8.sl_txt (pv 0) (po_some (pv 2)) (po_some (pv 3))) pa_nil))) pa_nil)))) pss_nil)
      (pss_one (ps_set (i := 2) sc_tokens_of.nd rfl (by first | exact Or.inl rfl | exact Or.inr rfl) (pv 3))))))
      (pss_one (ps_ret (pv 1)))))), ?_⟩
    refine ⟨by decide, fun p hp => ?_⟩
    let W : Nat → L2.St → Hp → Prop := fun m σ H1 => ∃ (i : Nat) (v : Option V) (acc : List Tok), σ = [some (.str (S a)), some (.ref p), some (.int (i : Int)), v] ∧ Same H H1 ∧ ToksAt H1 p acc ∧ toks a = acc ++ tokF a m i ∧ a.length ≤ i + m ∧ acc.length + m ≤ a.length
    refine ⟨W, ⟨a.length, 0, none, [], rfl, Same.new hp, ⟨[], upd_same, rfl, fun j q t h => by simp at h⟩, rfl, by omega, by simp⟩, ?_⟩
    rintro m σ H1 ⟨i, v, acc, rfl, S1, TA, et, hm, hac⟩
    refine ⟨_, rfl, _, rfl, S a, rfl, szl hl, _, _, rfl, rfl, _, rfl, ?_⟩
    rw [S_len]
    refine ite2 (fun h1 => ?_) (fun h1 => ?_)
    · have hi : i < a.length := by simpa using h1
      obtain ⟨m, rfl⟩ : ∃ m', m = m' + 1 := ⟨m - 1, by omega⟩
      have hc : a[i]? = some a[i] := by simp [hi]
      refine ⟨fun σ' H' => ∃ m', m' < m + 1 ∧ W m' σ' H', fun _ _ h => h, ?_⟩
      -- end = token_end(text, at)
      refine ⟨_, rfl, _, rfl, a, i, rfl, hl, hi, ?_⟩
      have le := tokEnd_le hi
      have gt := tokEnd_gt a i
      -- if text[at] not in BLANKS
      refine ⟨fun σ' H' => ∃ acc' : List Tok, σ' = [some (.str (S a)), some (.ref p), some (.int (i : Int)), some (.int (tokEnd a i : Int))] ∧ Same H H' ∧ ToksAt H' p acc' ∧ toks a = acc' ++ tokF a m (tokEnd a i) ∧ acc'.length + m ≤ a.length, ?_, ?_⟩
      · refine ⟨_, rfl, _, rfl, S a, _, _, rfl, rfl, szl hl, atI_nat hc, a[i], _, rfl, rfl, _, rfl, ?_⟩
        have eF : tokF a (m + 1) i = if (a[i]?.elim false blC) = true then tokF a m (tokEnd a i) else (i, (a.drop i).take (tokEnd a i - i)) :: tokF a m (tokEnd a i) := by
          conv => lhs; unfold tokF
          rw [if_pos hi]
        rw [hc] at eF
        refine ite2 (fun h2 => ?_) (fun h2 => ?_)
        · have hb : blC a[i] = false := by simpa [blC] using h2
          simp only [Option.elim_some, hb, Bool.false_eq_true, if_false] at eF
          obtain ⟨rows, r1, r2, r3⟩ := TA.ex
          refine ⟨_, rfl, .inl ⟨rfl, _, SqL.of r1⟩, _, rfl, _, rfl, _, rfl, _, rfl, _, rfl, _, rfl, S a, rfl, szl hl, ?_⟩
          rw [slice_mid (Nat.le_of_lt gt) le]
          refine ⟨by show 2 ≤ sizeLine; decide, fun q hq => ⟨p, _, _, rfl, rfl, (Same.new hq) _ _ r1, ?_, ?_⟩⟩
          · rw [List.length_map, r2]
            exact Nat.lt_of_le_of_lt (by omega : acc.length ≤ 100000) (by decide)
          · refine ⟨acc ++ [(i, (a.drop i).take (tokEnd a i - i))], rfl, ?_, ToksAt.push r1 r2 r3 hq rfl, ?_, by simp; omega⟩
            · exact (Upto.of (S1.trans (Same.new hq))).trans Upto.at |> fun u => fun c o e => u c o (ne_of_none e hp) e
            · rw [et, eF]
              simp
        · have hb : blC a[i] = true := by simpa [blC] using h2
          simp only [Option.elim_some, hb, if_true] at eF
          exact ⟨acc, rfl, S1, TA, by rw [et, eF], by omega⟩
      · rintro σ' H' ⟨acc', rfl, S2, TA2, et2, hac2⟩
        -- at = end
        exact ⟨_, rfl, m, by omega, tokEnd a i, _, acc', rfl, S2, TA2, et2, by omega, hac2⟩
    · -- return rows
      have hi : ¬ i < a.length := by simpa using h1
      have e0 : tokF a m i = [] := by
        cases m with
        | zero => rfl
        | succ m =>
          unfold tokF
          rw [if_neg hi]
      rw [e0, List.append_nil] at et
      rw [← et] at TA
      exact ⟨_, rfl, k p H1 hp S1 TA⟩
def spClass : Sp := fun vs H Q _ => ∃ a, vs = [.str (S a)] ∧ a.length ≤ 100000 ∧ ∀ H', Same H H' → Q (.bl (classL a)) H'
theorem c_fits_class (T : Txt K mg Z) : Cal P w K mg base 2 "fits_class" spClass [] := by
  have c_all_small : Cal P w K mg base 1 "all_small" spSmall [] := c_all_small T
  refine cal_of T.d_fits_class sc_fits_class (fun vs H Q E h => ?_) (fun f cdv A outer s H vs Q E hr h => ?_)
  · obtain ⟨a, rfl, _⟩ := h
    rfl
  · obtain ⟨a, rfl, hl, k⟩ := h
    have k' : ∀ b H', Same H H' → classL a = b → Q (.bl b) H' := fun b H' e h => h ▸ k H' e
    refine ⟨_, (pss_one (ps_ret (pe_and (pe_chain op_le op_le pe_int (pe_callB call_len_str (by rfl) T.b_len (by decide +kernel) (pa_cons (pv 0) pa_nil)) (pe_gc rfl T.g_LONGEST)) (pe_and (pe_cmpR op_in_sign (pe_ix ix_str (pv 0) pe_int (fun _ _ => rfl)) (pe_gc rfl T.g_CAPITAL) (by rfl)) (pe_one (pe_c c_all_small hr (by omega) rfl (pa_cons (pe_slice C8.sl_txt (pv 0) (po_some pe_int) po_none) pa_nil))))))), ?_⟩
    refine ⟨_, rfl, S a, rfl, szl hl, _, _, rfl, rfl, _, rfl, ?_⟩
    rw [S_len]
    refine ite2 (fun h1 => ?_) (fun h1 => ?_)
    · refine ⟨_, _, rfl, rfl, _, rfl, ?_⟩
      have h1' : 1 ≤ (a.length : Int) := of_decide_eq_true h1
      refine ite2 (fun h2 => ?_) (fun h2 => ?_)
      · have h2' : (a.length : Int) ≤ 8 := of_decide_eq_true h2
        obtain ⟨c, l, rfl⟩ : ∃ c l, a = c :: l := by
          cases a with
          | nil => simp at h1'
          | cons c l => exact ⟨c, l, rfl⟩
        refine ⟨_, rfl, S (c :: l), 0, c, rfl, rfl, szl hl, atI_nat (j := 0) rfl, c, _, rfl, rfl, _, rfl, ?_⟩
        have e0 : classL (c :: l) = (capC c && smallL l) := by
          simp only [classL, h1', h2', decide_true, Bool.true_and]
          rfl
        refine ite2 (fun h3 => ?_) (fun h3 => ?_)
        · have h3' : capC c = true := h3
          refine ⟨_, rfl, 1, rfl, S (c :: l), rfl, szl hl, ?_⟩
          rw [SX.slice_from (by decide)]
          refine ⟨l, rfl, fun H1 e1 => k' _ _ e1 ?_⟩
          rw [e0, h3', Bool.true_and]
        · have h3' : capC c = false := by simpa [capC] using h3
          exact k' _ _ (Same.refl _) (by rw [e0, h3', Bool.false_and])
      · exact k' _ _ (Same.refl _) (by simp only [decide_eq_true_eq] at h2; simp [classL, h2])
    · refine ⟨_, rfl, iteF ?_⟩
      exact k' _ _ (Same.refl _) (by simp only [decide_eq_true_eq] at h1; simp only [classL, h1]; simp)
end

/-! ### 3c. the reader -/
theorem f_TL : ¬ ("tokens" : Str) = "length" := by decide +kernel
theorem f_TP : ¬ ("tokens" : Str) = "place" := by decide +kernel
theorem f_LP : ¬ ("length" : Str) = "place" := by decide +kernel
theorem f_LT : ¬ ("length" : Str) = "tokens" := by decide +kernel
theorem f_PT : ¬ ("place" : Str) = "tokens" := by decide +kernel
theorem f_PL : ¬ ("place" : Str) = "length" := by decide +kernel
def rdF (tl : Addr) (n i : Nat) : List (Str × V) := [("tokens", .ref tl), ("length", .int (n : Int)), ("place", .int (i : Int))]
theorem rdF_T {tl : Addr} {n i : Nat} : (rdF tl n i).lookup ("tokens" : Str) = some (.ref tl) := look_eq
theorem rdF_L {tl : Addr} {n i : Nat} : (rdF tl n i).lookup ("length" : Str) = some (.int (n : Int)) := (look_ne f_LT).trans look_eq
theorem rdF_P {tl : Addr} {n i : Nat} : (rdF tl n i).lookup ("place" : Str) = some (.int (i : Int)) := (look_ne f_PT).trans ((look_ne f_PL).trans look_eq)
theorem rdF_no {tl : Addr} {n i : Nat} {m : Str} (h1 : ¬ m = "tokens") (h2 : ¬ m = "length") (h3 : ¬ m = "place") : (rdF tl n i).lookup m = none := (look_ne h1).trans ((look_ne h2).trans ((look_ne h3).trans rfl))
theorem rdF_put {tl : Addr} {n i j : Nat} : putF "place" (.int (j : Int)) (rdF tl n i) = rdF tl n j := by
  unfold rdF
  rw [putF_ne f_TP, putF_ne f_LP, putF_eq]
theorem rdF_made {tl : Addr} {n i : Nat} : putF "place" (.int (i : Int)) (putF "length" (.int (n : Int)) (putF "tokens" (.ref tl) [])) = rdF tl n i := by
  show putF "place" _ (putF "length" _ [("tokens", V.ref tl)]) = _
  rw [putF_ne f_TL]
  show putF "place" _ [("tokens", V.ref tl), ("length", V.int (n : Int))] = _
  rw [putF_ne f_TP, putF_ne f_LP]
  rfl
theorem m_no {tl : Addr} {n i : Nat} : (rdF tl n i).lookup ("token" : Str) = none ∧ (rdF tl n i).lookup ("position" : Str) = none ∧ (rdF tl n i).lookup ("advance" : Str) = none ∧ (rdF tl n i).lookup ("take" : Str) = none ∧ (rdF tl n i).lookup ("take_word" : Str) = none ∧ (rdF tl n i).lookup ("take_class" : Str) = none ∧ (rdF tl n i).lookup ("finish" : Str) = none :=
  ⟨rdF_no (by decide +kernel) (by decide +kernel) (by decide +kernel), rdF_no (by decide +kernel) (by decide +kernel) (by decide +kernel), rdF_no (by decide +kernel) (by decide +kernel) (by decide +kernel), rdF_no (by decide +kernel) (by decide +kernel) (by decide +kernel),
    rdF_no (by decide +kernel) (by decide +kernel) (by decide +kernel), rdF_no (by decide +kernel) (by decide +kernel) (by decide +kernel), rdF_no (by decide +kernel) (by decide +kernel) (by decide +kernel)⟩
/-- a Reader at r over the tokens tk of a text of n signs, i of them taken -/
structure RdAt (C : Addr) (H : Hp) (r tl : Addr) (tk : List Tok) (n i : Nat) : Prop where
  ob : ∃ dx, H r = some (.ins C dx (rdF tl n i)) ∧ ToksAt H tl tk
  le : i ≤ tk.length
  small : tk.length ≤ 100000 ∧ ∀ t ∈ tk, t.2.length ≤ 100000
def tok0 (ts : List Tok) : List Nat := ts.head?.elim [] (·.2)
def posOf (n : Nat) (ts : List Tok) : Nat := ts.head?.elim n (·.1)
theorem tok0_drop {tk : List Tok} {i : Nat} {t : Tok} (h : tk[i]? = some t) : tok0 (tk.drop i) = t.2 ∧ ∀ n, posOf n (tk.drop i) = t.1 := by
  have e : (tk.drop i).head? = some t := by rw [List.head?_drop]; exact h
  exact ⟨by unfold tok0; rw [e]; rfl, fun n => by unfold posOf; rw [e]; rfl⟩
theorem tok0_end {tk : List Tok} {i : Nat} (h : tk.length ≤ i) : tok0 (tk.drop i) = [] ∧ ∀ n, posOf n (tk.drop i) = n := by
  rw [List.drop_eq_nil_of_le h]
  exact ⟨rfl, fun n => rfl⟩
theorem tok0_small {C r tl : Addr} {H : Hp} {tk : List Tok} {n i : Nat} (R : RdAt C H r tl tk n i) : (tok0 (tk.drop i)).length ≤ 100000 := by
  by_cases h : i < tk.length
  · have e : tk[i]? = some tk[i] := by simp [h]
    rw [(tok0_drop e).1]
    exact R.small.2 _ (List.getElem_mem h)
  · rw [(tok0_end (by omega)).1]
    exact Nat.zero_le _
theorem RdAt.same {C r tl : Addr} {H H' : Hp} {tk : List Tok} {n i : Nat} (R : RdAt C H r tl tk n i) (e : Same H H') : RdAt C H' r tl tk n i := by
  obtain ⟨⟨dx, h1, h2⟩, le, sm⟩ := R
  exact ⟨⟨dx, e _ _ h1, h2.same e⟩, le, sm⟩
theorem ToksAt.upto {H H' : Hp} {p r C dx : Addr} {fs : List (Str × V)} {tk : List Tok} (h : ToksAt H p tk) (hr : H r = some (.ins C dx fs)) (e : Upto r H H') : ToksAt H' p tk := by
  obtain ⟨rows, h1, h2, h3⟩ := h.ex
  exact ⟨rows, e _ _ (ne_of h1 hr (by intro z; cases z)) h1, h2, fun j q t a b => e _ _ (ne_of (h3 j q t a b) hr (by intro z; cases z)) (h3 j q t a b)⟩
def isW (a : List Nat) (x : Str) : Bool := decide (V.str (S a) = V.str x)
theorem RdAt.re {C r tl dx : Addr} {H H' : Hp} {tk : List Tok} {n i j : Nat} (R : RdAt C H r tl tk n i) (u : Upto r H H') (h : H' r = some (.ins C dx (rdF tl n j))) (hj : j ≤ tk.length) : RdAt C H' r tl tk n j := by
  obtain ⟨⟨dx, h1, h2⟩, le, sm⟩ := R
  exact ⟨⟨_, h, h2.upto h1 u⟩, hj, sm⟩
/-- an error at the position p -/
def BadE (CB : Addr) (E : XK) (r : Addr) (H : Hp) (p : Nat) : Prop := ∀ d H', H d = none → Upto r H H' → H' d = some (.xd [("at", .int (p : Int))]) → E (.ref CB) (some d) H'
theorem BadE.of {CB : Addr} {E : XK} {r : Addr} {H H1 : Hp} {p : Nat} (h : BadE CB E r H p) (hr : H1 r ≠ none) (u : Upto r H H1) : BadE CB E r H1 p := fun d H' hd u' e => h d H' (by
  cases q : H d with
  | none => rfl
  | some o =>
    by_cases hdr : d = r
    · subst hdr
      exact absurd hd hr
    · rw [u d o hdr q] at hd
      cases hd) (u.trans u') e
theorem RdAt.here {C r tl : Addr} {H : Hp} {tk : List Tok} {n i : Nat} (R : RdAt C H r tl tk n i) : H r ≠ none := by
  obtain ⟨⟨dx, h1, _⟩, _⟩ := R
  rw [h1]
  intro z
  cases z
section
variable {P : Program} {w : World} {K : PySem.W.Frag} {mg : Str → Option Value} {base : Heap} {Z : Addrs}
theorem c_BadText___init__ (T : Txt K mg Z) : ExIni P w K mg base 1 Z.C_BadText (spExI Z.C_BadText "at") := by
  refine exi_of T.d_BadText___init__ sc_BadText___init__ (fun vs H Q E h => ?_) (fun f cdv A outer s H vs Q E hr h => ?_)
  · obtain ⟨a, v, rfl, _⟩ := h
    rfl
  · obtain ⟨a, v, rfl, ha, k⟩ := h
    refine ⟨_, pss_one (ps_ost (pv 0) (pv 1)), ?_⟩
    exact ⟨_, rfl, _, rfl, a, Z.C_BadText, rfl, T.x_BadText, T.n_BadText_at, .inl ⟨ha, fun dx hd ne => k dx hd ne⟩⟩
def spRd (C : Addr) (g : List Tok → Nat → V) : Sp := fun vs H Q _ => ∃ r tl tk n i, vs = [.ref r] ∧ RdAt C H r tl tk n i ∧ Q (g (tk.drop i) n) H
theorem c_Reader_token (T : Txt K mg Z) : C8.Met P w K mg base 1 Z.C_Reader "token" (spRd Z.C_Reader fun ts _ => .str (S (tok0 ts))) [] := by
  refine met_of T.cl_Reader T.d_Reader_token sc_Reader_token (fun vs H Q E h => ?_) (fun f cdv A outer s H vs Q E hr h => ?_)
  · obtain ⟨r, tl, tk, n, i, rfl, _⟩ := h
    rfl
  · obtain ⟨r, tl, tk, n, i, rfl, ⟨⟨dx, h1, h2⟩, le, sm⟩, k⟩ := h
    obtain ⟨rows, r1, r2, r3⟩ := h2.ex
    refine ⟨_, (pss_cons (ps_if (pt_cmpR op_lt (pe_fld (pv 0) rfl) (pe_callB call_len_seq (by rfl) T.b_len (by decide +kernel) (pa_cons (pe_fld (pv 0) rfl) pa_nil)) (nomark _)) (pss_one (ps_ret (pe_ix ix_tup (pe_ix ix_list (pe_fld (pv 0) rfl) (pe_fld (pv 0) rfl) (fun _ _ => rfl)) pe_int (fun _ _ => rfl)))) pss_nil)
      (pss_one (ps_ret pe_str))), ?_⟩
    refine ⟨_, rfl, r, _, dx, _, _, rfl, h1, T.cl_Reader, T.n_Reader_place, rdF_P, _, rfl, r, _, dx, _, _, rfl, h1, T.cl_Reader, T.n_Reader_tokens, rdF_T, tl, _, rfl, .inl (SqL.of r1), _, _, rfl, rfl, _, rfl, ?_⟩
    rw [List.length_map, r2]
    refine ite2 (fun h => ?_) (fun h => ?_)
    · have hi : i < tk.length := by simpa using h
      have e1 : rows[i]? = some (rows[i]'(by omega)) := by simp [r2, hi]
      have e2 : tk[i]? = some tk[i] := by simp [hi]
      have e3 := r3 i _ _ e1 e2
      refine ⟨_, rfl, r, _, dx, _, _, rfl, h1, T.cl_Reader, T.n_Reader_tokens, rdF_T, _, rfl, r, _, dx, _, _, rfl, h1, T.cl_Reader, T.n_Reader_place, rdF_P, tl, _, (i : Int), _, rfl, rfl, SqL.of r1, atI_nat (by rw [List.getElem?_map, e1]; rfl), ?_⟩
      refine ⟨_, _, 1, _, rfl, rfl, SqT.of e3, atI_nat (j := 1) rfl, ?_⟩
      dsimp only at k
      rw [(tok0_drop e2).1] at k
      exact k
    · have hi : ¬ i < tk.length := by simpa using h
      dsimp only at k
      rw [(tok0_end (by omega)).1] at k
      exact k
theorem c_Reader_position (T : Txt K mg Z) : C8.Met P w K mg base 1 Z.C_Reader "position" (spRd Z.C_Reader fun ts n => .int (posOf n ts : Nat)) [] := by
  refine met_of T.cl_Reader T.d_Reader_position sc_Reader_position (fun vs H Q E h => ?_) (fun f cdv A outer s H vs Q E hr h => ?_)
  · obtain ⟨r, tl, tk, n, i, rfl, _⟩ := h
    rfl
  · obtain ⟨r, tl, tk, n, i, rfl, ⟨⟨dx, h1, h2⟩, le, sm⟩, k⟩ := h
    obtain ⟨rows, r1, r2, r3⟩ := h2.ex
    refine ⟨_, (pss_cons (ps_if (pt_cmpR op_lt (pe_fld (pv 0) rfl) (pe_callB call_len_seq (by rfl) T.b_len (by decide +kernel) (pa_cons (pe_fld (pv 0) rfl) pa_nil)) (nomark _)) (pss_one (ps_ret (pe_ix ix_tup (pe_ix ix_list (pe_fld (pv 0) rfl) (pe_fld (pv 0) rfl) (fun _ _ => rfl)) pe_int (fun _ _ => rfl)))) pss_nil)
      (pss_one (ps_ret (pe_fld (pv 0) rfl)))), ?_⟩
    refine ⟨_, rfl, r, _, dx, _, _, rfl, h1, T.cl_Reader, T.n_Reader_place, rdF_P, _, rfl, r, _, dx, _, _, rfl, h1, T.cl_Reader, T.n_Reader_tokens, rdF_T, tl, _, rfl, .inl (SqL.of r1), _, _, rfl, rfl, _, rfl, ?_⟩
    rw [List.length_map, r2]
    refine ite2 (fun h => ?_) (fun h => ?_)
    · have hi : i < tk.length := by simpa using h
      have e1 : rows[i]? = some (rows[i]'(by omega)) := by simp [r2, hi]
      have e2 : tk[i]? = some tk[i] := by simp [hi]
      have e3 := r3 i _ _ e1 e2
      refine ⟨_, rfl, r, _, dx, _, _, rfl, h1, T.cl_Reader, T.n_Reader_tokens, rdF_T, _, rfl, r, _, dx, _, _, rfl, h1, T.cl_Reader, T.n_Reader_place, rdF_P, tl, _, (i : Int), _, rfl, rfl, SqL.of r1, atI_nat (by rw [List.getElem?_map, e1]; rfl), ?_⟩
      refine ⟨_, _, 0, _, rfl, rfl, SqT.of e3, atI_nat (j := 0) rfl, ?_⟩
      dsimp only at k
      rw [(tok0_drop e2).2] at k
      exact k
    · have hi : ¬ i < tk.length := by simpa using h
      dsimp only at k
      rw [(tok0_end (by omega)).2] at k
      exact ⟨_, rfl, r, _, dx, _, _, rfl, h1, T.cl_Reader, T.n_Reader_length, rdF_L, k⟩
def spAdv (C : Addr) : Sp := fun vs H Q _ => ∃ r tl tk n i, vs = [.ref r] ∧ RdAt C H r tl tk n i ∧ i < tk.length ∧ ∀ H', RdAt C H' r tl tk n (i + 1) → Upto r H H' → Q (.str (S (tok0 (tk.drop i)))) H'
theorem c_Reader_advance (T : Txt K mg Z) : C8.Met P w K mg base 2 Z.C_Reader "advance" (spAdv Z.C_Reader) [] := by
  have c_Reader_token : C8.Met P w K mg base 1 Z.C_Reader "token" _ [] := c_Reader_token T
  refine met_of T.cl_Reader T.d_Reader_advance sc_Reader_advance (fun vs H Q E h => ?_) (fun f cdv A outer s H vs Q E hr h => ?_)
  · obtain ⟨r, tl, tk, n, i, rfl, _⟩ := h
    rfl
  · obtain ⟨r, tl, tk, n, i, rfl, R, hi, k⟩ := h
    obtain ⟨⟨dx, h1, h2⟩, le, sm⟩ := id R
    refine ⟨_, (pss_cons (ps_set (i := 1) sc_Reader_advance.nd rfl (by first | exact Or.inl rfl | exact Or.inr rfl) (C8.pe_mt0 c_Reader_token hr (by omega) (pv 0)))
      (pss_cons (ps_fld (pv 0) (pe_op op_add (pe_fld (pv 0) rfl) pe_int) rfl)
      (pss_one (ps_ret (pv 1))))), ?_⟩
    refine ⟨_, rfl, r, dx, _, rfl, h1, m_no.1, r, tl, tk, n, i, rfl, R, ?_⟩
    refine ⟨_, rfl, r, _, dx, _, _, rfl, h1, T.cl_Reader, T.n_Reader_place, rdF_P, _, _, rfl, rfl, _, rfl, r, _, dx, _, rfl, h1, T.cl_Reader, T.n_Reader_place, (by show 3 < 1000; decide), ?_⟩
    refine ⟨_, rfl, k _ ⟨⟨dx, ?_, h2.upto h1 Upto.at⟩, hi, sm⟩ Upto.at⟩
    refine upd_same.trans ?_
    show some (HO.ins _ dx (putF "place" (.int ((i + 1 : Nat) : Int)) (rdF tl n i))) = _
    rw [rdF_put]
/-- a method that takes a token if it is fit -/
def spTok (C CB : Addr) (arg : List V) (fit : List Nat → Bool) : Sp := fun vs H Q E => ∃ r tl tk n i, vs = .ref r :: arg ∧ RdAt C H r tl tk n i ∧ fit [] = false ∧
  (fit (tok0 (tk.drop i)) = true → ∀ H', i < tk.length → RdAt C H' r tl tk n (i + 1) → Upto r H H' → Q (.str (S (tok0 (tk.drop i)))) H') ∧ (fit (tok0 (tk.drop i)) = false → BadE CB E r H (posOf n (tk.drop i)))
theorem fit_lt {fit : List Nat → Bool} {tk : List Tok} {i : Nat} (h0 : fit [] = false) (h : fit (tok0 (tk.drop i)) = true) : i < tk.length := by
  by_cases hi : i < tk.length
  · exact hi
  · rw [(tok0_end (by omega)).1, h0] at h
    cases h
theorem c_Reader_take (T : Txt K mg Z) (wd : Str) : MetX P w K mg base 3 Z.C_Reader "take" (spTok Z.C_Reader Z.C_BadText [.str wd] fun a => isW a wd) := by
  have c_Reader_token : C8.Met P w K mg base 1 Z.C_Reader "token" _ [] := c_Reader_token T
  have c_Reader_position : C8.Met P w K mg base 1 Z.C_Reader "position" _ [] := c_Reader_position T
  have c_Reader_advance : C8.Met P w K mg base 2 Z.C_Reader "advance" _ [] := c_Reader_advance T
  have c_BadText___init__ : ExIni P w K mg base 1 Z.C_BadText (spExI Z.C_BadText "at") := c_BadText___init__ T
  refine metX_of T.cl_Reader T.d_Reader_take sc_Reader_take (fun vs H Q E h => ?_) (fun f cdv A outer s H vs Q E hr h => ?_)
  · obtain ⟨r, tl, tk, n, i, rfl, _⟩ := h
    rfl
  · obtain ⟨r, tl, tk, n, i, rfl, R, h0, kt, kf⟩ := h
    obtain ⟨⟨dx, h1, h2⟩, le, sm⟩ := id R
    refine ⟨_, (pss_cons (ps_if (pt_cmpR op_ne (C8.pe_mt0 c_Reader_token hr (by omega) (pv 0)) (pv 1) (nomark _)) (pss_one (ps_bad rfl (takes_of rfl rfl rfl rfl) T.x_BadText T.k_BadText c_BadText___init__ hr (by omega) rfl (pa_cons (C8.pe_mt0 c_Reader_position hr (by omega) (pv 0)) pa_nil))) pss_nil)
      (pss_one (ps_ret (C8.pe_mt0 c_Reader_advance hr (by omega) (pv 0))))), ?_⟩
    refine ⟨_, rfl, r, dx, _, rfl, h1, m_no.1, r, tl, tk, n, i, rfl, R, _, rfl, rfl, _, rfl, ?_⟩
    refine ite2 (fun h => ?_) (fun h => ?_)
    · have hn : isW (tok0 (tk.drop i)) wd = false := by simpa [isW] using h
      refine ⟨_, rfl, r, dx, _, rfl, h1, m_no.2.1, r, tl, tk, n, i, rfl, R, bad_k fun d H' hd s e => kf hn d H' hd (Upto.of s) e⟩
    · have hn : isW (tok0 (tk.drop i)) wd = true := by simpa [isW] using h
      have hi := fit_lt (fit := fun a => isW a wd) h0 hn
      exact ⟨_, rfl, r, dx, _, rfl, h1, m_no.2.2.1, r, tl, tk, n, i, rfl, R, hi, fun H' => kt hn H' hi⟩
theorem c_Reader_take_word (T : Txt K mg Z) : MetX P w K mg base 3 Z.C_Reader "take_word" (spTok Z.C_Reader Z.C_BadText [] wordL) := by
  have c_Reader_token : C8.Met P w K mg base 1 Z.C_Reader "token" _ [] := c_Reader_token T
  have c_Reader_position : C8.Met P w K mg base 1 Z.C_Reader "position" _ [] := c_Reader_position T
  have c_Reader_advance : C8.Met P w K mg base 2 Z.C_Reader "advance" _ [] := c_Reader_advance T
  have c_fits_word : Cal P w K mg base 2 "fits_word" spWord [] := c_fits_word T
  have c_BadText___init__ : ExIni P w K mg base 1 Z.C_BadText (spExI Z.C_BadText "at") := c_BadText___init__ T
  refine metX_of T.cl_Reader T.d_Reader_take_word sc_Reader_take_word (fun vs H Q E h => ?_) (fun f cdv A outer s H vs Q E hr h => ?_)
  · obtain ⟨r, tl, tk, n, i, rfl, _⟩ := h
    rfl
  · obtain ⟨r, tl, tk, n, i, rfl, R, h0, kt, kf⟩ := h
    obtain ⟨⟨dx, h1, h2⟩, le, sm⟩ := id R
    refine ⟨_, (pss_cons (ps_if (pt_not (pt_val (pe_c c_fits_word hr (by omega) rfl (pa_cons (C8.pe_mt0 c_Reader_token hr (by omega) (pv 0)) pa_nil)))) (pss_one (ps_bad rfl (takes_of rfl rfl rfl rfl) T.x_BadText T.k_BadText c_BadText___init__ hr (by omega) rfl (pa_cons (C8.pe_mt0 c_Reader_position hr (by omega) (pv 0)) pa_nil))) pss_nil)
      (pss_one (ps_ret (C8.pe_mt0 c_Reader_advance hr (by omega) (pv 0))))), ?_⟩
    refine ⟨_, rfl, r, dx, _, rfl, h1, m_no.1, r, tl, tk, n, i, rfl, R, tok0 (tk.drop i), rfl, tok0_small R, fun H1 e1 => ⟨_, rfl, ?_⟩⟩
    have h1' := e1 _ _ h1
    have R1 := R.same e1
    refine ite2 (fun h => ?_) (fun h => ?_)
    · have hn : wordL (tok0 (tk.drop i)) = false := by simpa using h
      refine ⟨_, rfl, r, dx, _, rfl, h1', m_no.2.1, r, tl, tk, n, i, rfl, R1, bad_k fun d H' hd s e => kf hn d H' (e1.free hd) (Upto.of (e1.trans s)) e⟩
    · have hn : wordL (tok0 (tk.drop i)) = true := by simpa using h
      have hi := fit_lt h0 hn
      exact ⟨_, rfl, r, dx, _, rfl, h1', m_no.2.2.1, r, tl, tk, n, i, rfl, R1, hi, fun H' a b => kt hn H' hi a ((Upto.of e1).trans b)⟩
theorem c_Reader_take_class (T : Txt K mg Z) : MetX P w K mg base 3 Z.C_Reader "take_class" (spTok Z.C_Reader Z.C_BadText [] classL) := by
  have c_Reader_token : C8.Met P w K mg base 1 Z.C_Reader "token" _ [] := c_Reader_token T
  have c_Reader_position : C8.Met P w K mg base 1 Z.C_Reader "position" _ [] := c_Reader_position T
  have c_Reader_advance : C8.Met P w K mg base 2 Z.C_Reader "advance" _ [] := c_Reader_advance T
  have c_fits_class : Cal P w K mg base 2 "fits_class" spClass [] := c_fits_class T
  have c_BadText___init__ : ExIni P w K mg base 1 Z.C_BadText (spExI Z.C_BadText "at") := c_BadText___init__ T
  refine metX_of T.cl_Reader T.d_Reader_take_class sc_Reader_take_class (fun vs H Q E h => ?_) (fun f cdv A outer s H vs Q E hr h => ?_)
  · obtain ⟨r, tl, tk, n, i, rfl, _⟩ := h
    rfl
  · obtain ⟨r, tl, tk, n, i, rfl, R, h0, kt, kf⟩ := h
    obtain ⟨⟨dx, h1, h2⟩, le, sm⟩ := id R
    refine ⟨_, (pss_cons (ps_if (pt_not (pt_val (pe_c c_fits_class hr (by omega) rfl (pa_cons (C8.pe_mt0 c_Reader_token hr (by omega) (pv 0)) pa_nil)))) (pss_one (ps_bad rfl (takes_of rfl rfl rfl rfl) T.x_BadText T.k_BadText c_BadText___init__ hr (by omega) rfl (pa_cons (C8.pe_mt0 c_Reader_position hr (by omega) (pv 0)) pa_nil))) pss_nil)
      (pss_one (ps_ret (C8.pe_mt0 c_Reader_advance hr (by omega) (pv 0))))), ?_⟩
    refine ⟨_, rfl, r, dx, _, rfl, h1, m_no.1, r, tl, tk, n, i, rfl, R, tok0 (tk.drop i), rfl, tok0_small R, fun H1 e1 => ⟨_, rfl, ?_⟩⟩
    have h1' := e1 _ _ h1
    have R1 := R.same e1
    refine ite2 (fun h => ?_) (fun h => ?_)
    · have hn : classL (tok0 (tk.drop i)) = false := by simpa using h
      refine ⟨_, rfl, r, dx, _, rfl, h1', m_no.2.1, r, tl, tk, n, i, rfl, R1, bad_k fun d H' hd s e => kf hn d H' (e1.free hd) (Upto.of (e1.trans s)) e⟩
    · have hn : classL (tok0 (tk.drop i)) = true := by simpa using h
      have hi := fit_lt h0 hn
      exact ⟨_, rfl, r, dx, _, rfl, h1', m_no.2.2.1, r, tl, tk, n, i, rfl, R1, hi, fun H' a b => kt hn H' hi a ((Upto.of e1).trans b)⟩
def spFin (C CB : Addr) : Sp := fun vs H Q E => ∃ r tl tk n i, vs = [.ref r] ∧ RdAt C H r tl tk n i ∧ (tk.drop i = [] → Q .non H) ∧ (tk.drop i ≠ [] → BadE CB E r H (posOf n (tk.drop i)))
theorem c_Reader_finish (T : Txt K mg Z) : MetX P w K mg base 3 Z.C_Reader "finish" (spFin Z.C_Reader Z.C_BadText) := by
  have c_Reader_position : C8.Met P w K mg base 1 Z.C_Reader "position" _ [] := c_Reader_position T
  have c_BadText___init__ : ExIni P w K mg base 1 Z.C_BadText (spExI Z.C_BadText "at") := c_BadText___init__ T
  refine metX_of T.cl_Reader T.d_Reader_finish sc_Reader_finish (fun vs H Q E h => ?_) (fun f cdv A outer s H vs Q E hr h => ?_)
  · obtain ⟨r, tl, tk, n, i, rfl, _⟩ := h
    rfl
  · obtain ⟨r, tl, tk, n, i, rfl, R, kt, kf⟩ := h
    obtain ⟨⟨dx, h1, h2⟩, le, sm⟩ := id R
    obtain ⟨rows, r1, r2, r3⟩ := h2.ex
    refine ⟨_, (pss_one (ps_if (pt_cmpR op_lt (pe_fld (pv 0) rfl) (pe_callB call_len_seq (by rfl) T.b_len (by decide +kernel) (pa_cons (pe_fld (pv 0) rfl) pa_nil)) (nomark _)) (pss_one (ps_bad rfl (takes_of rfl rfl rfl rfl) T.x_BadText T.k_BadText c_BadText___init__ hr (by omega) rfl (pa_cons (C8.pe_mt0 c_Reader_position hr (by omega) (pv 0)) pa_nil))) pss_nil)), ?_⟩
    refine ⟨_, rfl, r, _, dx, _, _, rfl, h1, T.cl_Reader, T.n_Reader_place, rdF_P, _, rfl, r, _, dx, _, _, rfl, h1, T.cl_Reader, T.n_Reader_tokens, rdF_T, tl, _, rfl, .inl (SqL.of r1), _, _, rfl, rfl, _, rfl, ?_⟩
    rw [List.length_map, r2]
    refine ite2 (fun h => ?_) (fun h => ?_)
    · have hi : i < tk.length := by simpa using h
      have ne : tk.drop i ≠ [] := fun z => by
        have := List.drop_eq_nil_iff.mp z
        omega
      refine ⟨_, rfl, r, dx, _, rfl, h1, m_no.2.1, r, tl, tk, n, i, rfl, R, bad_k fun d H' hd s e => kf ne d H' hd (Upto.of s) e⟩
    · have hi : ¬ i < tk.length := by simpa using h
      exact kt (List.drop_eq_nil_of_le (by omega))
/-- Reader(text): a text, or none -/
def spNew (K : PySem.W.Frag) (C CB : Addr) : Sp := fun vs H Q E => ∃ (x dx : Addr) (v : V) (z : Option (List Nat)), vs = [.ref x, v] ∧ H x = some (.ins C dx []) ∧ StrOr K H v z ∧
  (∀ a, z = some a → ∀ TL H', H TL = none → RdAt C H' x TL (toks a) a.length 0 → Upto x H H' → Q .non H') ∧ (z = none → ∀ d H', H d = none → Same H H' → H' d = some (.xd [("at", .int (-1))]) → E (.ref CB) (some d) H')
theorem c_Reader___init__ (T : Txt K mg Z) : MakX P w K mg base 4 Z.C_Reader (spNew K Z.C_Reader Z.C_BadText) := by
  have c_tokens_of : Cal P w K mg base 3 "tokens_of" spToks [] := c_tokens_of T
  have c_BadText___init__ : ExIni P w K mg base 1 Z.C_BadText (spExI Z.C_BadText "at") := c_BadText___init__ T
  refine makX_of T.d_Reader___init__ sc_Reader___init__ (fun vs H Q E h => ?_) (fun f cdv A outer s H vs Q E hr h => ?_)
  · obtain ⟨x, dx, v, z, rfl, _⟩ := h
    rfl
  · obtain ⟨x, dx, v, z, rfl, hx, ⟨t, ty, ki, hz⟩, kt, kf⟩ := h
    refine ⟨_, (pss_cons (ps_if (pt_not (pt_val (pe_callB call_isi (by rfl) T.b_isinstance (by decide +kernel) (pa_cons (pv 1) (pa_cons (pe_bltn (v := .ty "str") (by rfl) T.b_str (by decide +kernel) rfl) pa_nil))))) (pss_one (ps_bad rfl (takes_of rfl rfl rfl rfl) T.x_BadText T.k_BadText c_BadText___init__ hr (by omega) rfl (pa_cons (pe_un un_neg pe_int) pa_nil))) pss_nil)
      (pss_cons (ps_fld (pv 0) (pe_c c_tokens_of hr (by omega) rfl (pa_cons (pv 1) pa_nil)) rfl)
      (pss_cons (ps_fld (pv 0) (pe_callB call_len_str (by rfl) T.b_len (by decide +kernel) (pa_cons (pv 1) pa_nil)) rfl)
      (pss_one (ps_fld (pv 0) pe_int rfl))))), ?_⟩
    refine ⟨_, rfl, _, _, _, _, _, rfl, .ty _, ty, ki, _, rfl, ?_⟩
    cases z with
    | none =>
      refine iteT ?_
      exact ⟨_, rfl, bad_k fun d H' hd s e => kf rfl d H' hd s e⟩
    | some a =>
      obtain ⟨rfl, hl⟩ := hz a rfl
      refine iteF ?_
      refine ⟨_, rfl, a, rfl, hl, fun p H1 hp e1 TA => ?_⟩
      have hx1 := e1 _ _ hx
      have hpx : p ≠ x := fun e => by subst e; rw [hx] at hp; cases hp
      refine ⟨_, rfl, x, _, dx, _, rfl, hx1, T.cl_Reader, T.n_Reader_tokens, (by show 0 < 1000; decide), ?_⟩
      refine ⟨_, rfl, S a, rfl, szl hl, _, rfl, x, _, dx, _, rfl, upd_same, T.cl_Reader, T.n_Reader_length, (by show 1 < 1000; decide), ?_⟩
      refine ⟨_, rfl, x, _, dx, _, rfl, upd_same, T.cl_Reader, T.n_Reader_place, Nat.lt_of_le_of_lt (few _ _ (few _ _ (Nat.zero_le 0))) (by decide), ?_⟩
      rw [upd_upd, upd_upd, S_len]
      have eF := rdF_made (tl := p) (n := a.length) (i := 0)
      rw [show (V.int 0) = V.int ((0 : Nat) : Int) by rfl, eF]
      exact kt a rfl p _ hp ⟨⟨dx, upd_same, TA.upto hx1 Upto.at⟩, Nat.zero_le _, ⟨Nat.le_trans (toks_len a) hl, fun t ht => Nat.le_trans (tokF_le a _ _ t ht) hl⟩⟩ ((Upto.of e1).trans Upto.at)
end

/-! ### 3d. the mirror of the reading of bodies -/
abbrev PR := Except (List Tok) (PyData × List Tok)
def pTok (fit : List Nat → Bool) (ts : List Tok) : Except (List Tok) (List Nat × List Tok) := if fit (tok0 ts) = true then .ok (tok0 ts, ts.tail) else .error ts
theorem pTok_t {fit : List Nat → Bool} {ts : List Tok} (h : fit (tok0 ts) = true) : pTok fit ts = .ok (tok0 ts, ts.tail) := if_pos h
theorem pTok_f {fit : List Nat → Bool} {ts : List Tok} (h : fit (tok0 ts) = false) : pTok fit ts = .error ts := if_neg (by rw [h]; exact Bool.false_ne_true)
abbrev is (x : Str) : List Nat → Bool := fun a => isW a x
def pIf (blk : List Tok → PR) (ts : List Tok) : PR := match pTok wordL ts with
  | .error e => .error e
  | .ok (x, r1) => match blk r1 with
    | .error e => .error e
    | .ok (a, r2) => match pTok (is "else") r2 with
      | .error e => .error e
      | .ok (_, r3) => match blk r3 with
        | .error e => .error e
        | .ok (b, r4) => .ok (.tuple [.str "if", .str (S x), a, b], r4)
def pTry (blk : List Tok → PR) (ts : List Tok) : PR := match blk ts with
  | .error e => .error e
  | .ok (a, r2) => match pTok (is "catch") r2 with
    | .error e => .error e
    | .ok (_, r3) => match blk r3 with
      | .error e => .error e
      | .ok (b, r4) => .ok (.tuple [.str "try", a, b], r4)
def pMore (blk : List Tok → PR) : Nat → List PyData → List Tok → Except (List Tok) (List PyData × List Tok)
  | 0, acc, ts => .ok (acc, ts)
  | f + 1, acc, ts => if isW (tok0 ts) "or" = true then (match blk ts.tail with
      | .error e => .error e
      | .ok (b, r) => pMore blk f (acc ++ [b]) r) else .ok (acc, ts)
def pEither (blk : List Tok → PR) (ts : List Tok) : PR := match blk ts with
  | .error e => .error e
  | .ok (a, r2) => match pTok (is "or") r2 with
    | .error e => .error e
    | .ok (_, r3) => match blk r3 with
      | .error e => .error e
      | .ok (b, r4) => match pMore blk (r4.length + 1) [a, b] r4 with
        | .error e => .error e
        | .ok (ds, r5) => .ok (.tuple [.str "either", .tuple ds], r5)
def withV : List V := [.str "set", .str "keep", .str "read", .str "look", .str "call"]
def classV : List V := [.str "of", .str "make"]
def stepV : List V := [.str "set", .str "keep", .str "read", .str "look", .str "call", .str "of", .str "make", .str "super", .str "fail", .str "loop", .str "if", .str "try", .str "either"]
def pSemi (d : List PyData) (ts : List Tok) : PR := match pTok (is ";") ts with
  | .error e => .error e
  | .ok (_, r) => .ok (.tuple d, r)
def pSimple (w : List Nat) (ts : List Tok) : PR :=
  if inV (.str (S w)) withV = true then (match pTok wordL ts with
    | .error e => .error e
    | .ok (x, r) => pSemi [.str (S w), .str (S x)] r)
  else if inV (.str (S w)) classV = true then (match pTok classL ts with
    | .error e => .error e
    | .ok (x, r) => pSemi [.str (S w), .str (S x)] r)
  else pSemi [.str (S w)] ts
def pStepW (blk : List Tok → PR) (w : List Nat) (ts : List Tok) : PR :=
  if isW w "loop" = true then (match blk ts with
    | .error e => .error e
    | .ok (b, r) => .ok (.tuple [.str (S w), b], r))
  else if isW w "if" = true then pIf blk ts
  else if isW w "try" = true then pTry blk ts
  else if isW w "either" = true then pEither blk ts
  else pSimple w ts
def pStep (blk : List Tok → PR) (ts : List Tok) : PR := pStepW blk (tok0 ts) ts.tail
def pLoop (step : List Tok → PR) : Nat → List PyData → List Tok → Except (List Tok) (List PyData × List Tok)
  | 0, acc, ts => .ok (acc, ts)
  | f + 1, acc, ts => if inV (.str (S (tok0 ts))) stepV = true then (match step ts with
      | .error e => .error e
      | .ok (d, r) => pLoop step f (acc ++ [d]) r) else .ok (acc, ts)
def pBodyOf (step : List Tok → PR) (ts : List Tok) : PR := match pLoop step (ts.length + 1) [] ts with
  | .error e => .error e
  | .ok (ds, r) => .ok (.tuple ds, r)
def pBraces (body : List Tok → PR) (ts : List Tok) : PR := match pTok (is "{") ts with
  | .error e => .error e
  | .ok (_, r) => match body r with
    | .error e => .error e
    | .ok (b, r2) => match pTok (is "}") r2 with
      | .error e => .error e
      | .ok (_, r3) => .ok (b, r3)
def blkN : Nat → List Tok → PR
  | 0, ts => .error ts
  | n + 1, ts => pBraces (pBodyOf (pStep (blkN n))) ts
def bodyN (n : Nat) : List Tok → PR := pBodyOf (pStep (blkN n))
/-! data without lists: they stay where tuples stay -/
mutual
inductive Dt (K : PySem.W.Frag) (H : Hp) : V → PyData → Prop
  | non : Dt K H .non .none
  | bl (b : Bool) : Dt K H (.bl b) (.bool b)
  | int (i : Int) : Dt K H (.int i) (.int i)
  | str (x : Str) : Dt K H (.str x) (.str x)
  | tup {a : Addr} {xs : List V} {ds : List PyData} : SqT K H a xs → DtAll K H xs ds → Dt K H (.ref a) (.tuple ds)
inductive DtAll (K : PySem.W.Frag) (H : Hp) : List V → List PyData → Prop
  | nil : DtAll K H [] []
  | cons {v : V} {vs : List V} {d : PyData} {ds : List PyData} : Dt K H v d → DtAll K H vs ds → DtAll K H (v :: vs) (d :: ds)
end
section
variable {K : PySem.W.Frag} {H H' : Hp}
mutual
theorem Dt.dp : ∀ (d : PyData) (v : V), Dt K H v d → Dp K H v d
  | .none, _, h => by cases h; exact .non
  | .bool b, _, h => by cases h; exact .bl b
  | .int i, _, h => by cases h; exact .int i
  | .str x, _, h => by cases h; exact .str x
  | .tuple ds, _, h => by
    cases h with
    | tup hs ha => exact .tup hs (DtAll.dp ds _ ha)
  | .list _, _, h => by cases h
  | .dict _, _, h => by cases h
theorem DtAll.dp : ∀ (ds : List PyData) (vs : List V), DtAll K H vs ds → DpAll K H vs ds
  | [], _, h => by cases h; exact .nil
  | d :: ds, _, h => by
    cases h with
    | cons h1 h2 => exact .cons (Dt.dp d _ h1) (DtAll.dp ds _ h2)
end
structure TStay (H H' : Hp) : Prop where
  tup : ∀ a xs, H a = some (.tup xs) → H' a = some (.tup xs)
  frz : ∀ a o u, H a = some (.frz o u) → H' a = some (.frz o u)
theorem TStay.rd {a : Addr} {xs : List V} (e : TStay H H') (h : Rd H a (.tup xs)) : Rd H' a (.tup xs) := by
  rcases h with h | ⟨o, h⟩
  · exact .inl (e.tup a xs h)
  · exact .inr ⟨o, e.frz a _ _ h⟩
mutual
theorem dt_stay (e : TStay H H') : ∀ (d : PyData) (v : V), Dt K H v d → Dt K H' v d
  | .none, _, h => by cases h; exact .non
  | .bool b, _, h => by cases h; exact .bl b
  | .int i, _, h => by cases h; exact .int i
  | .str x, _, h => by cases h; exact .str x
  | .tuple ds, _, h => by
    cases h with
    | tup hs ha => exact .tup (hs.elim (fun z => .inl (e.rd z)) .inr) (dtAll_stay e ds _ ha)
  | .list _, _, h => by cases h
  | .dict _, _, h => by cases h
theorem dtAll_stay (e : TStay H H') : ∀ (ds : List PyData) (vs : List V), DtAll K H vs ds → DtAll K H' vs ds
  | [], _, h => by cases h; exact .nil
  | d :: ds, _, h => by
    cases h with
    | cons h1 h2 => exact .cons (dt_stay e d _ h1) (dtAll_stay e ds _ h2)
end
theorem TStay.of (e : Same H H') : TStay H H' := ⟨fun a xs h => e a _ h, fun a o u h => e a _ h⟩
theorem TStay.up {r C dx : Addr} {fs : List (Str × V)} (h : H r = some (.ins C dx fs)) (e : Upto r H H') : TStay H H' :=
  ⟨fun a xs ha => e a _ (ne_of ha h (by intro z; cases z)) ha, fun a o u ha => e a _ (ne_of ha h (by intro z; cases z)) ha⟩
theorem TStay.lst {p : Addr} {xs : List V} {o : HO} (h : H p = some (.lst xs)) : TStay H (upd H p o) :=
  ⟨fun a ys ha => by rw [upd_ne (ne_of ha h (by intro z; cases z))]; exact ha, fun a o u ha => by rw [upd_ne (ne_of ha h (by intro z; cases z))]; exact ha⟩
theorem TStay.trans {H1 : Hp} (a : TStay H H') (b : TStay H' H1) : TStay H H1 := ⟨fun x xs h => b.tup x xs (a.tup x xs h), fun x o u h => b.frz x o u (a.frz x o u h)⟩
theorem dtAll_snoc : ∀ {vs : List V} {ds : List PyData} {v : V} {d : PyData}, DtAll K H vs ds → Dt K H v d → DtAll K H (vs ++ [v]) (ds ++ [d])
  | [], _, _, _, .nil, h => .cons h .nil
  | _ :: _, _, _, _, .cons a b, h => .cons a (dtAll_snoc b h)
theorem dtAll_len : ∀ {vs : List V} {ds : List PyData}, DtAll K H vs ds → vs.length = ds.length
  | [], _, .nil => rfl
  | _ :: _, _, .cons _ b => congrArg Nat.succ (dtAll_len b)
end
theorem RdAt.dstay {C r tl : Addr} {H H' : Hp} {tk : List Tok} {n i : Nat} (R : RdAt C H r tl tk n i) (e : Upto r H H') : TStay H H' := by
  obtain ⟨⟨dx, h1, _⟩, _⟩ := R
  exact TStay.up h1 e
theorem RdAt.meth {C r tl : Addr} {H : Hp} {tk : List Tok} {n i : Nat} (R : RdAt C H r tl tk n i) : ∃ dx, H r = some (.ins C dx (rdF tl n i)) := by
  obtain ⟨⟨dx, h1, _⟩, _⟩ := R
  exact ⟨dx, h1⟩
theorem drop_tail {tk : List Tok} {i : Nat} : (tk.drop i).tail = tk.drop (i + 1) := by rw [List.tail_drop]
/-- what the reading of a piece is: as m tells, at least k tokens taken -/
def spP (K : PySem.W.Frag) (C CB : Addr) (k : Nat) (arg : List V) (m : List Tok → PR) : Sp := fun vs H Q E => ∃ r tl tk n i, vs = .ref r :: arg ∧ RdAt C H r tl tk n i ∧
  (∀ d rest, m (tk.drop i) = .ok (d, rest) → ∀ v H' j, rest = tk.drop j → i + k ≤ j → RdAt C H' r tl tk n j → Upto r H H' → Dt K H' v d → Q v H') ∧ (∀ rest, m (tk.drop i) = .error rest → BadE CB E r H (posOf n rest))
abbrev depth (n : Nat) : V := .int (6 - (n : Int))
section
variable {P : Program} {w : World} {K : PySem.W.Frag} {mg : Str → Option Value} {base : Heap} {Z : Addrs}
theorem c_read_if (T : Txt K mg Z) {n l : Nat} (hl : 4 ≤ l) (c_read_block : CalX P w K mg base l "read_block" (spP K Z.C_Reader Z.C_BadText 1 [depth n] (blkN n))) : CalX P w K mg base (l + 1) "read_if" (spP K Z.C_Reader Z.C_BadText 1 [depth n] (pIf (blkN n))) := by
  have c_Reader_take_word : MetX P w K mg base 3 Z.C_Reader "take_word" _ := c_Reader_take_word T
  have c_Reader_take := fun x => c_Reader_take (P := P) (w := w) (base := base) T x
  refine calX_of T.d_read_if sc_read_if (fun vs H Q E h => ?_) (fun f cdv A outer s H vs Q E hr h => ?_)
  · obtain ⟨r, tl, tk, n, i, rfl, _⟩ := h
    rfl
  · obtain ⟨r, tl, tk, n0, i, rfl, R, kt, kf⟩ := h
    refine ⟨_, (pss_cons (ps_set (i := 2) sc_read_if.nd rfl (by first | exact Or.inl rfl | exact Or.inr rfl) (pe_mtX0 c_Reader_take_word hr (by omega) (pv 0) (passes_call (takes_of rfl rfl rfl rfl) fun _ _ _ _ h => h) ))
      (pss_cons (ps_set (i := 3) sc_read_if.nd rfl (by first | exact Or.inl rfl | exact Or.inr rfl) (pe_cX c_read_block hr (by omega) rfl (passes_call (takes_of rfl rfl rfl rfl) fun _ _ _ _ h => h) (pa_cons (pv 0) (pa_cons (pv 1) pa_nil))))
      (pss_cons (ps_expr (pe_mtX (c_Reader_take "else") hr (by omega) (pv 0) (passes_call (takes_of rfl rfl rfl rfl) fun _ _ _ _ h => h) (pa_cons pe_str pa_nil)))
      (pss_one (ps_ret (pe_tup (pa_cons pe_str (pa_cons (pv 2) (pa_cons (pv 3) (pa_cons (pe_cX c_read_block hr (by omega) rfl (passes_call (takes_of rfl rfl rfl rfl) fun _ _ _ _ h => h) (pa_cons (pv 0) (pa_cons (pv 1) pa_nil))) pa_nil)))))))))), ?_⟩
    obtain ⟨dx, h1⟩ := R.meth
    refine ⟨_, rfl, r, dx, _, rfl, h1, m_no.2.2.2.2.1, r, tl, tk, n0, i, rfl, R, rfl, fun hw H1 hi R1 u1 => ?_, fun hw => kf _ (by simp only [pIf, pTok_f hw])⟩
    have e1 : pTok wordL (tk.drop i) = .ok (tok0 (tk.drop i), tk.drop (i + 1)) := by rw [pTok_t hw, drop_tail]
    refine ⟨_, rfl, _, rfl, r, tl, tk, n0, i + 1, rfl, R1, fun d rest e2 v H2 j hj hij R2 u2 D2 => ?_, fun rest e2 => (kf _ (by simp only [pIf, e1, e2])).of R1.here u1⟩
    subst hj
    obtain ⟨dx2, h2⟩ := R2.meth
    refine ⟨_, rfl, r, dx2, _, rfl, h2, m_no.2.2.2.1, r, tl, tk, n0, j, rfl, R2, by decide +kernel, fun hw3 H3 hi3 R3 u3 => ?_, fun hw3 => (kf _ (by simp only [pIf, e1, e2, pTok_f (fit := is "else") hw3])).of R2.here (u1.trans u2)⟩
    have e3 : pTok (is "else") (tk.drop j) = .ok (tok0 (tk.drop j), tk.drop (j + 1)) := by rw [pTok_t hw3, drop_tail]
    have D3 := dt_stay (R2.dstay u3) d v D2
    refine ⟨_, rfl, _, rfl, _, rfl, _, rfl, r, tl, tk, n0, j + 1, rfl, R3, fun d4 rest4 e4 v4 H4 j4 hj4 hij4 R4 u4 D4 => ?_, fun rest e4 => (kf _ (by simp only [pIf, e1, e2, e3, e4])).of R3.here (u1.trans (u2.trans u3))⟩
    refine ⟨by show 4 ≤ sizeLine; decide, fun p hp => ?_⟩
    have D5 := dt_stay (R3.dstay u4) d v D3
    have st := Same.new (o := .tup [V.str "if", V.str (S (tok0 (tk.drop i))), v, v4]) hp
    refine kt (.tuple [.str "if", .str (S (tok0 (tk.drop i))), d, d4]) _ (by simp only [pIf, e1, e2, e3, e4]) _ _ j4 hj4 (by omega) (R4.same st) (u1.trans (u2.trans (u3.trans (u4.trans (Upto.of st))))) ?_
    exact .tup (SqT.of upd_same) (.cons (.str _) (.cons (.str _) (.cons (dt_stay (TStay.of st) d v D5) (.cons (dt_stay (TStay.of st) d4 v4 D4) .nil))))
theorem c_read_try (T : Txt K mg Z) {n l : Nat} (hl : 4 ≤ l) (c_read_block : CalX P w K mg base l "read_block" (spP K Z.C_Reader Z.C_BadText 1 [depth n] (blkN n))) : CalX P w K mg base (l + 1) "read_try" (spP K Z.C_Reader Z.C_BadText 1 [depth n] (pTry (blkN n))) := by
  have c_Reader_take := fun x => c_Reader_take (P := P) (w := w) (base := base) T x
  refine calX_of T.d_read_try sc_read_try (fun vs H Q E h => ?_) (fun f cdv A outer s H vs Q E hr h => ?_)
  · obtain ⟨r, tl, tk, n, i, rfl, _⟩ := h
    rfl
  · obtain ⟨r, tl, tk, n0, i, rfl, R, kt, kf⟩ := h
    refine ⟨_, (pss_cons (ps_set (i := 2) sc_read_try.nd rfl (by first | exact Or.inl rfl | exact Or.inr rfl) (pe_cX c_read_block hr (by omega) rfl (passes_call (takes_of rfl rfl rfl rfl) fun _ _ _ _ h => h) (pa_cons (pv 0) (pa_cons (pv 1) pa_nil))))
      (pss_cons (ps_expr (pe_mtX (c_Reader_take "catch") hr (by omega) (pv 0) (passes_call (takes_of rfl rfl rfl rfl) fun _ _ _ _ h => h) (pa_cons pe_str pa_nil)))
      (pss_one (ps_ret (pe_tup (pa_cons pe_str (pa_cons (pv 2) (pa_cons (pe_cX c_read_block hr (by omega) rfl (passes_call (takes_of rfl rfl rfl rfl) fun _ _ _ _ h => h) (pa_cons (pv 0) (pa_cons (pv 1) pa_nil))) pa_nil)))))))), ?_⟩
    refine ⟨_, rfl, _, rfl, r, tl, tk, n0, i, rfl, R, fun d rest e2 v H2 j hj hij R2 u2 D2 => ?_, fun rest e2 => kf _ (by simp only [pTry, e2])⟩
    subst hj
    obtain ⟨dx2, h2⟩ := R2.meth
    refine ⟨_, rfl, r, dx2, _, rfl, h2, m_no.2.2.2.1, r, tl, tk, n0, j, rfl, R2, by decide +kernel, fun hw3 H3 hi3 R3 u3 => ?_, fun hw3 => (kf _ (by simp only [pTry, e2, pTok_f (fit := is "catch") hw3])).of R2.here u2⟩
    have e3 : pTok (is "catch") (tk.drop j) = .ok (tok0 (tk.drop j), tk.drop (j + 1)) := by rw [pTok_t hw3, drop_tail]
    have D3 := dt_stay (R2.dstay u3) d v D2
    refine ⟨_, rfl, _, rfl, _, rfl, r, tl, tk, n0, j + 1, rfl, R3, fun d4 rest4 e4 v4 H4 j4 hj4 hij4 R4 u4 D4 => ?_, fun rest e4 => (kf _ (by simp only [pTry, e2, e3, e4])).of R3.here (u2.trans u3)⟩
    refine ⟨by show 3 ≤ sizeLine; decide, fun p hp => ?_⟩
    have D5 := dt_stay (R3.dstay u4) d v D3
    have st := Same.new (o := .tup [V.str "try", v, v4]) hp
    refine kt (.tuple [.str "try", d, d4]) _ (by simp only [pTry, e2, e3, e4]) _ _ j4 hj4 (by omega) (R4.same st) (u2.trans (u3.trans (u4.trans (Upto.of st)))) ?_
    exact .tup (SqT.of upd_same) (.cons (.str _) (.cons (dt_stay (TStay.of st) d v D5) (.cons (dt_stay (TStay.of st) d4 v4 D4) .nil)))
theorem c_read_braces (T : Txt K mg Z) {n l : Nat} (hl : 4 ≤ l) (c_read_body : CalX P w K mg base l "read_body" (spP K Z.C_Reader Z.C_BadText 0 [depth n] (bodyN n))) : CalX P w K mg base (l + 1) "read_braces" (spP K Z.C_Reader Z.C_BadText 1 [depth n] (pBraces (bodyN n))) := by
  have c_Reader_take := fun x => c_Reader_take (P := P) (w := w) (base := base) T x
  refine calX_of T.d_read_braces sc_read_braces (fun vs H Q E h => ?_) (fun f cdv A outer s H vs Q E hr h => ?_)
  · obtain ⟨r, tl, tk, n, i, rfl, _⟩ := h
    rfl
  · obtain ⟨r, tl, tk, n0, i, rfl, R, kt, kf⟩ := h
    refine ⟨_, (pss_cons (ps_expr (pe_mtX (c_Reader_take "{") hr (by omega) (pv 0) (passes_call (takes_of rfl rfl rfl rfl) fun _ _ _ _ h => h) (pa_cons pe_str pa_nil)))
      (pss_cons (ps_set (i := 2) sc_read_braces.nd rfl (by first | exact Or.inl rfl | exact Or.inr rfl) (pe_cX c_read_body hr (by omega) rfl (passes_call (takes_of rfl rfl rfl rfl) fun _ _ _ _ h => h) (pa_cons (pv 0) (pa_cons (pv 1) pa_nil))))
      (pss_cons (ps_expr (pe_mtX (c_Reader_take "}") hr (by omega) (pv 0) (passes_call (takes_of rfl rfl rfl rfl) fun _ _ _ _ h => h) (pa_cons pe_str pa_nil)))
      (pss_one (ps_ret (pv 2)))))), ?_⟩
    obtain ⟨dx, h1⟩ := R.meth
    refine ⟨_, rfl, r, dx, _, rfl, h1, m_no.2.2.2.1, r, tl, tk, n0, i, rfl, R, by decide +kernel, fun hw H1 hi R1 u1 => ?_, fun hw => kf _ (by simp only [pBraces, pTok_f (fit := is "{") hw])⟩
    have e1 : pTok (is "{") (tk.drop i) = .ok (tok0 (tk.drop i), tk.drop (i + 1)) := by rw [pTok_t hw, drop_tail]
    refine ⟨_, rfl, _, rfl, r, tl, tk, n0, i + 1, rfl, R1, fun d rest e2 v H2 j hj hij R2 u2 D2 => ?_, fun rest e2 => (kf _ (by simp only [pBraces, e1, e2])).of R1.here u1⟩
    subst hj
    obtain ⟨dx2, h2⟩ := R2.meth
    refine ⟨_, rfl, r, dx2, _, rfl, h2, m_no.2.2.2.1, r, tl, tk, n0, j, rfl, R2, by decide +kernel, fun hw3 H3 hi3 R3 u3 => ?_, fun hw3 => (kf _ (by simp only [pBraces, e1, e2, pTok_f (fit := is "}") hw3])).of R2.here (u1.trans u2)⟩
    have e3 : pTok (is "}") (tk.drop j) = .ok (tok0 (tk.drop j), tk.drop (j + 1)) := by rw [pTok_t hw3, drop_tail]
    exact ⟨_, rfl, kt d _ (by simp only [pBraces, e1, e2, e3]) v H3 (j + 1) rfl (by omega) R3 (u1.trans (u2.trans u3)) (dt_stay (R2.dstay u3) d v D2)⟩
/-- a block: none is left | n more -/
theorem c_read_block0 (T : Txt K mg Z) {l : Nat} (hl : 4 ≤ l) (c_read_braces : CalX P w K mg base l "read_braces" (fun _ _ _ _ => False)) : CalX P w K mg base (l + 1) "read_block" (spP K Z.C_Reader Z.C_BadText 1 [depth 0] (blkN 0)) := by
  have c_Reader_position : C8.Met P w K mg base 1 Z.C_Reader "position" _ [] := c_Reader_position T
  have c_BadText___init__ : ExIni P w K mg base 1 Z.C_BadText (spExI Z.C_BadText "at") := c_BadText___init__ T
  refine calX_of T.d_read_block sc_read_block (fun vs H Q E h => ?_) (fun f cdv A outer s H vs Q E hr h => ?_)
  · obtain ⟨r, tl, tk, n, i, rfl, _⟩ := h
    rfl
  · obtain ⟨r, tl, tk, n0, i, rfl, R, kt, kf⟩ := h
    refine ⟨_, (pss_cons (ps_if (pt_cmpR op_eq (pv 1) (pe_gc rfl T.g_DEEPEST) (nomark _)) (pss_one (ps_bad rfl (takes_of rfl rfl rfl rfl) T.x_BadText T.k_BadText c_BadText___init__ hr (by omega) rfl (pa_cons (C8.pe_mt0 c_Reader_position hr (by omega) (pv 0)) pa_nil))) pss_nil)
      (pss_one (ps_ret (pe_cX c_read_braces hr (by omega) rfl (passes_call (takes_of rfl rfl rfl rfl) fun _ _ _ _ h => h) (pa_cons (pv 0) (pa_cons (pe_op op_add (pv 1) pe_int) pa_nil)))))), ?_⟩
    obtain ⟨dx, h1⟩ := R.meth
    refine ⟨_, rfl, rfl, _, rfl, ?_⟩
    refine iteT ?_
    exact ⟨_, rfl, r, dx, _, rfl, h1, m_no.2.1, r, tl, tk, n0, i, rfl, R, bad_k fun d H' hd s e => kf _ rfl d H' hd (Upto.of s) e⟩
theorem c_read_blockS (T : Txt K mg Z) {n l : Nat} (hl : 4 ≤ l) (c_read_braces : CalX P w K mg base l "read_braces" (spP K Z.C_Reader Z.C_BadText 1 [depth n] (pBraces (bodyN n)))) : CalX P w K mg base (l + 1) "read_block" (spP K Z.C_Reader Z.C_BadText 1 [depth (n + 1)] (blkN (n + 1))) := by
  have c_Reader_position : C8.Met P w K mg base 1 Z.C_Reader "position" _ [] := c_Reader_position T
  have c_BadText___init__ : ExIni P w K mg base 1 Z.C_BadText (spExI Z.C_BadText "at") := c_BadText___init__ T
  refine calX_of T.d_read_block sc_read_block (fun vs H Q E h => ?_) (fun f cdv A outer s H vs Q E hr h => ?_)
  · obtain ⟨r, tl, tk, n, i, rfl, _⟩ := h
    rfl
  · obtain ⟨r, tl, tk, n0, i, rfl, R, kt, kf⟩ := h
    refine ⟨_, (pss_cons (ps_if (pt_cmpR op_eq (pv 1) (pe_gc rfl T.g_DEEPEST) (nomark _)) (pss_one (ps_bad rfl (takes_of rfl rfl rfl rfl) T.x_BadText T.k_BadText c_BadText___init__ hr (by omega) rfl (pa_cons (C8.pe_mt0 c_Reader_position hr (by omega) (pv 0)) pa_nil))) pss_nil)
      (pss_one (ps_ret (pe_cX c_read_braces hr (by omega) rfl (passes_call (takes_of rfl rfl rfl rfl) fun _ _ _ _ h => h) (pa_cons (pv 0) (pa_cons (pe_op op_add (pv 1) pe_int) pa_nil)))))), ?_⟩
    refine ⟨_, rfl, rfl, _, rfl, ?_⟩
    refine ite2 (fun h => ?_) (fun h => ?_)
    · have h := of_decide_eq_true h
      have h : (6 : Int) - ((n + 1 : Nat) : Int) = 6 := V.int.inj h
      omega
    · refine ⟨_, rfl, _, rfl, _, _, rfl, rfl, ?_⟩
      have e : (V.int (6 - ((n + 1 : Nat) : Int) + 1)) = depth n := by unfold depth; congr 1; omega
      dsimp only
      rw [e]
      exact ⟨r, tl, tk, n0, i, rfl, R, kt, kf⟩
theorem dp_tok {H : Hp} {ts : List Tok} : Dt K H (.str (S (tok0 ts))) (.str (S (tok0 ts))) := .str _
/-- a step's reading: a word that begins one stands there -/
def spStep (K : PySem.W.Frag) (C CB : Addr) (arg : List V) (m : List Tok → PR) : Sp := fun vs H Q E => ∃ r tl tk n i, vs = .ref r :: arg ∧ RdAt C H r tl tk n i ∧ i < tk.length ∧
  (∀ d rest, m (tk.drop i) = .ok (d, rest) → ∀ v H' j, rest = tk.drop j → i + 1 ≤ j → RdAt C H' r tl tk n j → Upto r H H' → Dt K H' v d → Q v H') ∧ (∀ rest, m (tk.drop i) = .error rest → BadE CB E r H (posOf n rest))
theorem c_read_step (T : Txt K mg Z) {n l : Nat} (hl : 4 ≤ l) (c_read_block : CalX P w K mg base l "read_block" (spP K Z.C_Reader Z.C_BadText 1 [depth n] (blkN n))) (c_read_if : CalX P w K mg base (l + 1) "read_if" (spP K Z.C_Reader Z.C_BadText 1 [depth n] (pIf (blkN n))))
    (c_read_try : CalX P w K mg base (l + 1) "read_try" (spP K Z.C_Reader Z.C_BadText 1 [depth n] (pTry (blkN n)))) (c_read_either : CalX P w K mg base (l + 1) "read_either" (spP K Z.C_Reader Z.C_BadText 1 [depth n] (pEither (blkN n)))) :
    CalX P w K mg base (l + 2) "read_step" (spStep K Z.C_Reader Z.C_BadText [depth n] (pStep (blkN n))) := by
  have c_Reader_advance : C8.Met P w K mg base 2 Z.C_Reader "advance" _ [] := c_Reader_advance T
  have c_Reader_take_word : MetX P w K mg base 3 Z.C_Reader "take_word" _ := c_Reader_take_word T
  have c_Reader_take_class : MetX P w K mg base 3 Z.C_Reader "take_class" _ := c_Reader_take_class T
  have c_Reader_take := fun x => c_Reader_take (P := P) (w := w) (base := base) T x
  refine calX_of T.d_read_step sc_read_step (fun vs H Q E h => ?_) (fun f cdv A outer s H vs Q E hr h => ?_)
  · obtain ⟨r, tl, tk, n, i, rfl, _⟩ := h
    rfl
  · obtain ⟨r, tl, tk, n0, i, rfl, R, hi, kt, kf⟩ := h
    refine ⟨_, (pss_cons (ps_set (i := 2) sc_read_step.nd rfl (by first | exact Or.inl rfl | exact Or.inr rfl) (C8.pe_mt0 c_Reader_advance hr (by omega) (pv 0)))
      (pss_cons (ps_if (pt_cmpR op_eq (pv 2) pe_str (nomark _)) (pss_one (ps_ret (pe_tup (pa_cons (pv 2) (pa_cons (pe_cX c_read_block hr (by omega) rfl (passes_call (takes_of rfl rfl rfl rfl) fun _ _ _ _ h => h) (pa_cons (pv 0) (pa_cons (pv 1) pa_nil))) pa_nil))))) pss_nil)
      (pss_cons (ps_if (pt_cmpR op_eq (pv 2) pe_str (nomark _)) (pss_one (ps_ret (pe_cX c_read_if hr (by omega) rfl (passes_call (takes_of rfl rfl rfl rfl) fun _ _ _ _ h => h) (pa_cons (pv 0) (pa_cons (pv 1) pa_nil))))) pss_nil)
      (pss_cons (ps_if (pt_cmpR op_eq (pv 2) pe_str (nomark _)) (pss_one (ps_ret (pe_cX c_read_try hr (by omega) rfl (passes_call (takes_of rfl rfl rfl rfl) fun _ _ _ _ h => h) (pa_cons (pv 0) (pa_cons (pv 1) pa_nil))))) pss_nil)
      (pss_cons (ps_if (pt_cmpR op_eq (pv 2) pe_str (nomark _)) (pss_one (ps_ret (pe_cX c_read_either hr (by omega) rfl (passes_call (takes_of rfl rfl rfl rfl) fun _ _ _ _ h => h) (pa_cons (pv 0) (pa_cons (pv 1) pa_nil))))) pss_nil)
      (pss_cons (ps_set (i := 3) sc_read_step.nd rfl (by first | exact Or.inl rfl | exact Or.inr rfl) (pe_tup (pa_cons (pv 2) pa_nil)))
      (C8.pss_cut (ps_if (pt_cmpR op_in_seq (pv 2) (pe_gc rfl T.g_WITH_WORD) (by with_unfolding_all rfl)) (pss_one (ps_set (i := 3) sc_read_step.nd rfl (by first | exact Or.inl rfl | exact Or.inr rfl) (pe_tup (pa_cons (pv 2) (pa_cons (pe_mtX0 c_Reader_take_word hr (by omega) (pv 0) (passes_call (takes_of rfl rfl rfl rfl) fun _ _ _ _ h => h) ) pa_nil))))) (pss_one (ps_if (pt_cmpR op_in_seq (pv 2) (pe_gc rfl T.g_WITH_CLASS) (by with_unfolding_all rfl)) (pss_one (ps_set (i := 3) sc_read_step.nd rfl (by first | exact Or.inl rfl | exact Or.inr rfl) (pe_tup (pa_cons (pv 2) (pa_cons (pe_mtX0 c_Reader_take_class hr (by omega) (pv 0) (passes_call (takes_of rfl rfl rfl rfl) fun _ _ _ _ h => h) ) pa_nil))))) pss_nil)))
      (pss_cons (ps_expr (pe_mtX (c_Reader_take ";") hr (by omega) (pv 0) (passes_call (takes_of rfl rfl rfl rfl) fun _ _ _ _ h => h) (pa_cons pe_str pa_nil)))
      (pss_one (ps_ret (pv 3))))))))))), ?_⟩
    obtain ⟨dx, h1⟩ := R.meth
    refine ⟨_, rfl, r, dx, _, rfl, h1, m_no.2.2.1, r, tl, tk, n0, i, rfl, R, hi, fun H1 R1 u1 => ?_⟩
    have eS : pStep (blkN n) (tk.drop i) = pStepW (blkN n) (tok0 (tk.drop i)) (tk.drop (i + 1)) := by unfold pStep; rw [drop_tail]
    generalize hw : tok0 (tk.drop i) = wd at eS ⊢
    unfold pStepW at eS
    have pass : ∀ {m : List Tok → PR}, pStep (blkN n) (tk.drop i) = m (tk.drop (i + 1)) → (∀ d rest, m (tk.drop (i + 1)) = .ok (d, rest) → ∀ v H' j, rest = tk.drop j → i + 1 + 1 ≤ j → RdAt Z.C_Reader H' r tl tk n0 j → Upto r H1 H' → Dt K H' v d → Q v H') ∧ (∀ rest, m (tk.drop (i + 1)) = .error rest → BadE Z.C_BadText E r H1 (posOf n0 rest)) :=
      fun {m} e => ⟨fun d rest e2 v H' j hj hij R' u' D' => kt d rest (e.trans e2) v H' j hj (by omega) R' (u1.trans u') D', fun rest e2 => (kf rest (e.trans e2)).of R1.here u1⟩
    -- loop
    refine ⟨_, rfl, rfl, _, rfl, ?_⟩
    refine ite2 (fun c1 => ?_) (fun c1 => ?_)
    · have c1' : isW wd "loop" = true := c1
      rw [if_pos c1'] at eS
      refine ⟨_, rfl, _, rfl, _, rfl, r, tl, tk, n0, i + 1, rfl, R1, fun d rest e v H2 j hj hij R2 u2 D2 => ?_, fun rest e => (kf _ (by rw [eS, e])).of R1.here u1⟩
      refine ⟨by show 2 ≤ sizeLine; decide, fun p hp => ?_⟩
      have st := Same.new (o := .tup [V.str (S wd), v]) hp
      exact kt (.tuple [.str (S wd), d]) _ (by rw [eS, e]) _ _ j hj (by omega) (R2.same st) (u1.trans (u2.trans (Upto.of st))) (.tup (SqT.of upd_same) (.cons (.str _) (.cons (dt_stay (TStay.of st) d v D2) .nil)))
    have c1' : isW wd "loop" = false := by simpa [isW] using c1
    rw [if_neg (by rw [c1']; exact Bool.false_ne_true)] at eS
    -- if
    refine ⟨_, rfl, rfl, _, rfl, ?_⟩
    refine ite2 (fun c2 => ?_) (fun c2 => ?_)
    · have c2' : isW wd "if" = true := c2
      rw [if_pos c2'] at eS
      exact ⟨_, rfl, _, rfl, r, tl, tk, n0, i + 1, rfl, R1, (pass eS).1, (pass eS).2⟩
    have c2' : isW wd "if" = false := by simpa [isW] using c2
    rw [if_neg (by rw [c2']; exact Bool.false_ne_true)] at eS
    -- try
    refine ⟨_, rfl, rfl, _, rfl, ?_⟩
    refine ite2 (fun c3 => ?_) (fun c3 => ?_)
    · have c3' : isW wd "try" = true := c3
      rw [if_pos c3'] at eS
      exact ⟨_, rfl, _, rfl, r, tl, tk, n0, i + 1, rfl, R1, (pass eS).1, (pass eS).2⟩
    have c3' : isW wd "try" = false := by simpa [isW] using c3
    rw [if_neg (by rw [c3']; exact Bool.false_ne_true)] at eS
    -- either
    refine ⟨_, rfl, rfl, _, rfl, ?_⟩
    refine ite2 (fun c4 => ?_) (fun c4 => ?_)
    · have c4' : isW wd "either" = true := c4
      rw [if_pos c4'] at eS
      exact ⟨_, rfl, _, rfl, r, tl, tk, n0, i + 1, rfl, R1, (pass eS).1, (pass eS).2⟩
    have c4' : isW wd "either" = false := by simpa [isW] using c4
    rw [if_neg (by rw [c4']; exact Bool.false_ne_true)] at eS
    -- step = (word,)
    refine ⟨_, rfl, by show 1 ≤ sizeLine; decide, fun p hp => ?_⟩
    have st := Same.new (o := .tup [V.str (S wd)]) hp
    have R2 := R1.same st
    have u2 := u1.trans (Upto.of st)
    refine ⟨fun σ' H' => ∃ (q : Addr) (ds : List PyData) (j : Nat), σ' = [some (.ref r), some (depth n), some (.str (S wd)), some (.ref q)] ∧ Upto r H H' ∧ RdAt Z.C_Reader H' r tl tk n0 j ∧ i + 1 ≤ j ∧ Dt K H' (.ref q) (.tuple ds) ∧ pStep (blkN n) (tk.drop i) = pSemi ds (tk.drop j), ?_, ?_⟩
    · refine ⟨_, rfl, Z.C_WITH_WORD, withV, rfl, .inr (T.t_WITH_WORD _), rfl, rfl, _, rfl, ?_⟩
      unfold pSimple at eS
      refine ite2 (fun c5 => ?_) (fun c5 => ?_)
      · have c5 : inV (V.str (S wd)) withV = true := c5
        rw [if_pos c5] at eS
        obtain ⟨dx2, h2⟩ := R2.meth
        refine ⟨_, rfl, _, rfl, r, dx2, _, rfl, h2, m_no.2.2.2.2.1, r, tl, tk, n0, i + 1, rfl, R2, rfl, fun hw H3 hi3 R3 u3 => ?_, fun hw => (kf _ (by rw [eS, pTok_f hw])).of R2.here u2⟩
        rw [pTok_t hw, drop_tail] at eS
        refine ⟨by show 2 ≤ sizeLine; decide, fun q hq => ?_⟩
        have s3 := Same.new (o := .tup [V.str (S wd), V.str (S (tok0 (tk.drop (i + 1))))]) hq
        exact ⟨q, _, i + 1 + 1, rfl, u2.trans (u3.trans (Upto.of s3)), R3.same s3, by omega, .tup (SqT.of upd_same) (.cons (.str _) (.cons (.str _) .nil)), eS⟩
      · have c5 : ¬ inV (V.str (S wd)) withV = true := c5
        rw [if_neg c5] at eS
        refine ⟨_, rfl, Z.C_WITH_CLASS, classV, rfl, .inr (T.t_WITH_CLASS _), rfl, rfl, _, rfl, ?_⟩
        refine ite2 (fun c6 => ?_) (fun c6 => ?_)
        · have c6 : inV (V.str (S wd)) classV = true := c6
          rw [if_pos c6] at eS
          obtain ⟨dx2, h2⟩ := R2.meth
          refine ⟨_, rfl, _, rfl, r, dx2, _, rfl, h2, m_no.2.2.2.2.2.1, r, tl, tk, n0, i + 1, rfl, R2, rfl, fun hw H3 hi3 R3 u3 => ?_, fun hw => (kf _ (by rw [eS, pTok_f hw])).of R2.here u2⟩
          rw [pTok_t hw, drop_tail] at eS
          refine ⟨by show 2 ≤ sizeLine; decide, fun q hq => ?_⟩
          have s3 := Same.new (o := .tup [V.str (S wd), V.str (S (tok0 (tk.drop (i + 1))))]) hq
          exact ⟨q, _, i + 1 + 1, rfl, u2.trans (u3.trans (Upto.of s3)), R3.same s3, by omega, .tup (SqT.of upd_same) (.cons (.str _) (.cons (.str _) .nil)), eS⟩
        · have c6 : ¬ inV (V.str (S wd)) classV = true := c6
          rw [if_neg c6] at eS
          exact ⟨p, _, i + 1, rfl, u2, R2, by omega, .tup (SqT.of upd_same) (.cons (.str _) .nil), eS⟩
    · rintro σ' H' ⟨q, ds, j, rfl, u3, R3, hij, D3, eQ⟩
      obtain ⟨dx3, h3⟩ := R3.meth
      refine ⟨_, rfl, r, dx3, _, rfl, h3, m_no.2.2.2.1, r, tl, tk, n0, j, rfl, R3, by decide +kernel, fun hw H4 hi4 R4 u4 => ?_, fun hw => (kf _ (by rw [eQ]; unfold pSemi; rw [pTok_f (fit := is ";") hw])).of R3.here u3⟩
      refine ⟨_, rfl, kt (.tuple ds) _ (by rw [eQ]; unfold pSemi; rw [pTok_t (fit := is ";") hw, drop_tail]) _ H4 (j + 1) rfl (by omega) R4 (u3.trans u4) (dt_stay (R3.dstay u4) _ _ D3)⟩
theorem c_read_body (T : Txt K mg Z) {n l : Nat} (hl : 4 ≤ l) (c_read_step : CalX P w K mg base l "read_step" (spStep K Z.C_Reader Z.C_BadText [depth n] (pStep (blkN n)))) : CalX P w K mg base (l + 1) "read_body" (spP K Z.C_Reader Z.C_BadText 0 [depth n] (bodyN n)) := by
  have c_Reader_token : C8.Met P w K mg base 1 Z.C_Reader "token" _ [] := c_Reader_token T
  refine calX_of T.d_read_body sc_read_body (fun vs H Q E h => ?_) (fun f cdv A outer s H vs Q E hr h => ?_)
  · obtain ⟨r, tl, tk, n, i, rfl, _⟩ := h
    rfl
  · obtain ⟨r, tl, tk, n0, i, rfl, R, kt, kf⟩ := h
    refine ⟨_, (pss_cons (ps_set (i := 2) sc_read_body.nd rfl (by first | exact Or.inl rfl | exact Or.inr rfl) (pe_lst pa_nil))
      (pss_cons (ps_while (passes_of rfl) (pt_cmpR op_in_seq (C8.pe_mt0 c_Reader_token hr (by omega) (pv 0)) (pe_gc rfl T.g_STEP_WORDS) (by with_unfolding_all rfl)) (pss_one (ps_expr (pe_bm PySem.F.plainAttrs_list PySem.F.slot_list_append PySem.F.type_list_append mt_append (pv 2) (pa_cons (pe_cX c_read_step hr (by omega) rfl (passes_call (takes_of rfl rfl rfl rfl) fun _ _ _ _ h => h) (pa_cons (pv 0) (pa_cons (pv 1) pa_nil))) pa_nil)))))
      (pss_one (ps_ret (pe_callTy call_tuple_of (by rfl) T.b_tuple (by decide +kernel) (pa_cons (pv 2) pa_nil)))))), ?_⟩
    refine ⟨by decide, fun p hp => ?_⟩
    have hrp : r ≠ p := fun e => by subst e; exact R.here hp
    let W : Nat → L2.St → Hp → Prop := fun m σ H1 => ∃ (i' f : Nat) (vs : List V) (ds : List PyData), σ = [some (.ref r), some (depth n), some (.ref p)] ∧ Upto r H H1 ∧ RdAt Z.C_Reader H1 r tl tk n0 i' ∧ i ≤ i' ∧ H1 p = some (.lst vs) ∧ DtAll K H1 vs ds ∧
      pLoop (pStep (blkN n)) ((tk.drop i).length + 1) [] (tk.drop i) = pLoop (pStep (blkN n)) f ds (tk.drop i') ∧ tk.length < i' + f ∧ m = tk.length - i' ∧ vs.length ≤ i'
    refine ⟨W, ⟨tk.length - i, i, (tk.drop i).length + 1, [], [], rfl, Upto.of (Same.new hp), R.same (Same.new hp), Nat.le_refl _, upd_same, .nil, rfl, by rw [List.length_drop]; have := R.le; omega, rfl, Nat.zero_le _⟩, ?_⟩
    rintro m σ H1 ⟨i', f, vs, ds, rfl, u1, R1, hii, hp1, D1, eL, hf, rfl, hvs⟩
    obtain ⟨dx, h1⟩ := R1.meth
    refine ⟨_, rfl, r, dx, _, rfl, h1, m_no.1, r, tl, tk, n0, i', rfl, R1, Z.C_STEP_WORDS, stepV, rfl, .inr (T.t_STEP_WORDS _), rfl, rfl, _, rfl, ?_⟩
    refine ite2 (fun c => ?_) (fun c => ?_)
    · have c : inV (V.str (S (tok0 (tk.drop i')))) stepV = true := c
      have hi : i' < tk.length := by
        by_cases hi : i' < tk.length
        · exact hi
        · rw [(tok0_end (by omega)).1] at c
          exact absurd c (by decide +kernel)
      obtain ⟨f, rfl⟩ : ∃ f', f = f' + 1 := ⟨f - 1, by omega⟩
      have eF : pLoop (pStep (blkN n)) (f + 1) ds (tk.drop i') = (match pStep (blkN n) (tk.drop i') with
        | .error e => .error e
        | .ok (d, r) => pLoop (pStep (blkN n)) f (ds ++ [d]) r) := by
        conv => lhs; unfold pLoop
        rw [if_pos c]
      rw [eF] at eL
      refine ⟨fun σ' H' => ∃ m', m' < tk.length - i' ∧ W m' σ' H', fun _ _ h => h, ?_⟩
      refine ⟨_, rfl, .inl ⟨rfl, _, SqL.of hp1⟩, _, rfl, _, rfl, r, tl, tk, n0, i', rfl, R1, hi, fun d rest e v H2 j hj hij R2 u2 D2 => ?_, fun rest e => (kf _ ?_).of R1.here u1⟩
      · subst hj
        rw [e] at eL
        have hp2 : H2 p = some (.lst vs) := u2 _ _ hrp.symm hp1
        refine ⟨p, vs, v, rfl, rfl, hp2, Nat.lt_of_le_of_lt (Nat.le_trans hvs (Nat.le_of_lt hi)) ?_, ?_⟩
        · exact Nat.lt_of_le_of_lt R.small.1 (by decide)
        · obtain ⟨dx2, h2⟩ := R2.meth
          have u3 : Upto r H (upd H2 p (.lst (vs ++ [v]))) := fun a o ha e => by
            rw [upd_ne (ne_of_none e hp)]
            exact (u1.trans u2) a o ha e
          have ts := TStay.lst (o := .lst (vs ++ [v])) hp2
          exact ⟨tk.length - j, by omega, j, f, vs ++ [v], ds ++ [d], rfl, u3, R.re u3 (by rw [upd_ne hrp]; exact h2) R2.le, by omega, upd_same, dtAll_snoc (dtAll_stay (TStay.trans (R1.dstay u2) ts) ds vs D1) (dt_stay ts d v D2), eL, by omega, rfl, by simp; omega⟩
      · rw [e] at eL
        unfold bodyN pBodyOf
        rw [eL]
    · have c : ¬ inV (V.str (S (tok0 (tk.drop i')))) stepV = true := c
      have eF : pLoop (pStep (blkN n)) f ds (tk.drop i') = .ok (ds, tk.drop i') := by
        cases f with
        | zero => rfl
        | succ f =>
          unfold pLoop
          rw [if_neg c]
      rw [eF] at eL
      refine ⟨_, rfl, p, vs, rfl, .inl ⟨SqL.of hp1, fun q hq => ?_⟩⟩
      have st := Same.new (o := .tup vs) hq
      exact kt (.tuple ds) (tk.drop i') (by unfold bodyN pBodyOf; rw [eL]) _ _ i' rfl (by omega) (R1.same st) (u1.trans (Upto.of st)) (.tup (SqT.of upd_same) (dtAll_stay (TStay.of st) ds vs D1))
theorem c_read_either (T : Txt K mg Z) {n l : Nat} (hl : 4 ≤ l) (c_read_block : CalX P w K mg base l "read_block" (spP K Z.C_Reader Z.C_BadText 1 [depth n] (blkN n))) : CalX P w K mg base (l + 1) "read_either" (spP K Z.C_Reader Z.C_BadText 1 [depth n] (pEither (blkN n))) := by
  have c_Reader_token : C8.Met P w K mg base 1 Z.C_Reader "token" _ [] := c_Reader_token T
  have c_Reader_take := fun x => c_Reader_take (P := P) (w := w) (base := base) T x
  refine calX_of T.d_read_either sc_read_either (fun vs H Q E h => ?_) (fun f cdv A outer s H vs Q E hr h => ?_)
  · obtain ⟨r, tl, tk, n, i, rfl, _⟩ := h
    rfl
  · obtain ⟨r, tl, tk, n0, i, rfl, R, kt, kf⟩ := h
    refine ⟨_, (pss_cons (ps_set (i := 2) sc_read_either.nd rfl (by first | exact Or.inl rfl | exact Or.inr rfl) (pe_lst (pa_cons (pe_cX c_read_block hr (by omega) rfl (passes_call (takes_of rfl rfl rfl rfl) fun _ _ _ _ h => h) (pa_cons (pv 0) (pa_cons (pv 1) pa_nil))) pa_nil)))
      (pss_cons (ps_expr (pe_mtX (c_Reader_take "or") hr (by omega) (pv 0) (passes_call (takes_of rfl rfl rfl rfl) fun _ _ _ _ h => h) (pa_cons pe_str pa_nil)))
      (pss_cons (ps_expr (pe_bm PySem.F.plainAttrs_list PySem.F.slot_list_append PySem.F.type_list_append mt_append (pv 2) (pa_cons (pe_cX c_read_block hr (by omega) rfl (passes_call (takes_of rfl rfl rfl rfl) fun _ _ _ _ h => h) (pa_cons (pv 0) (pa_cons (pv 1) pa_nil))) pa_nil)))
      (pss_cons (ps_while (passes_of rfl) (pt_cmpR op_eq (C8.pe_mt0 c_Reader_token hr (by omega) (pv 0)) pe_str (nomark _)) (pss_cons (ps_expr (pe_mtX (c_Reader_take "or") hr (by omega) (pv 0) (passes_call (takes_of rfl rfl rfl rfl) fun _ _ _ _ h => h) (pa_cons pe_str pa_nil)))
      (pss_one (ps_expr (pe_bm PySem.F.plainAttrs_list PySem.F.slot_list_append PySem.F.type_list_append mt_append (pv 2) (pa_cons (pe_cX c_read_block hr (by omega) rfl (passes_call (takes_of rfl rfl rfl rfl) fun _ _ _ _ h => h) (pa_cons (pv 0) (pa_cons (pv 1) pa_nil))) pa_nil))))))
      (pss_one (ps_ret (pe_tup (pa_cons pe_str (pa_cons (pe_callTy call_tuple_of (by rfl) T.b_tuple (by decide +kernel) (pa_cons (pv 2) pa_nil)) pa_nil))))))))), ?_⟩
    -- blocks = [read_block(reader, depth)]
    refine ⟨_, rfl, _, rfl, r, tl, tk, n0, i, rfl, R, fun d rest e1 v H1 j hj hij R1 u1 D1 => ?_, fun rest e => kf _ (by simp only [pEither, e])⟩
    subst hj
    refine ⟨by show 1 ≤ sizeLine; decide, fun p hp => ?_⟩
    have hrp : r ≠ p := fun e => by subst e; exact R1.here hp
    have hp0 : H p = none := by
      cases q : H p with
      | none => rfl
      | some o =>
        rw [u1 p o hrp.symm q] at hp
        cases hp
    have st := Same.new (o := .lst [v]) hp
    have R2 := R1.same st
    obtain ⟨dx2, h2⟩ := R2.meth
    -- reader.take('or')
    refine ⟨_, rfl, r, dx2, _, rfl, h2, m_no.2.2.2.1, r, tl, tk, n0, j, rfl, R2, by decide +kernel, fun hw H3 hi3 R3 u3 => ?_, fun hw => (kf _ (by simp only [pEither, e1, pTok_f (fit := is "or") hw])).of R2.here (u1.trans (Upto.of st))⟩
    have e2 : pTok (is "or") (tk.drop j) = .ok (tok0 (tk.drop j), tk.drop (j + 1)) := by rw [pTok_t hw, drop_tail]
    have hp3 : H3 p = some (.lst [v]) := u3 _ _ hrp.symm upd_same
    have u03 := u1.trans ((Upto.of st).trans u3)
    have D3 := dt_stay (R2.dstay u3) d v (dt_stay (TStay.of st) d v D1)
    -- blocks.append(read_block(reader, depth))
    refine ⟨_, rfl, .inl ⟨rfl, _, SqL.of hp3⟩, _, rfl, _, rfl, r, tl, tk, n0, j + 1, rfl, R3, fun d4 rest4 e4 v4 H4 j4 hj4 hij4 R4 u4 D4 => ?_, fun rest e => (kf _ (by simp only [pEither, e1, e2, e])).of R3.here u03⟩
    subst hj4
    have hp4 : H4 p = some (.lst [v]) := u4 _ _ hrp.symm hp3
    refine ⟨p, _, v4, rfl, rfl, hp4, by show 1 < sizeLine; decide, ?_⟩
    have fresh : ∀ {H' : Hp} {xs : List V}, Upto r H H' → Upto r H (upd H' p (.lst xs)) := fun {H' xs} u a o ha e => by
      rw [upd_ne (ne_of_none e hp0)]
      exact u a o ha e
    obtain ⟨dx4, h4⟩ := R4.meth
    have u5 := fresh (xs := [v] ++ [v4]) (u03.trans u4)
    have ts := TStay.lst (o := .lst ([v] ++ [v4])) hp4
    have R5 := R.re u5 (by rw [upd_ne hrp]; exact h4) R4.le
    have D5 : DtAll K (upd H4 p (.lst ([v] ++ [v4]))) [v, v4] [d, d4] := .cons (dt_stay (TStay.trans (R3.dstay u4) ts) d v D3) (.cons (dt_stay ts d4 v4 D4) .nil)
    -- while reader.token() == 'or'
    let W : Nat → L2.St → Hp → Prop := fun m σ H1 => ∃ (i' f : Nat) (vs : List V) (ds : List PyData), σ = [some (.ref r), some (depth n), some (.ref p)] ∧ Upto r H H1 ∧ RdAt Z.C_Reader H1 r tl tk n0 i' ∧ i + 1 ≤ i' ∧ H1 p = some (.lst vs) ∧ DtAll K H1 vs ds ∧
      pMore (blkN n) ((tk.drop j4).length + 1) [d, d4] (tk.drop j4) = pMore (blkN n) f ds (tk.drop i') ∧ tk.length < i' + f ∧ m = tk.length - i' ∧ vs.length ≤ i'
    have e0 : ∀ X, pMore (blkN n) ((tk.drop j4).length + 1) [d, d4] (tk.drop j4) = X → pEither (blkN n) (tk.drop i) = (match X with
        | .error e => .error e
        | .ok (ds, r5) => .ok (.tuple [.str "either", .tuple ds], r5)) := fun X e => by
      subst e
      simp only [pEither, e1, e2, e4]
    refine ⟨W, ⟨tk.length - j4, j4, (tk.drop j4).length + 1, _, [d, d4], rfl, u5, R5, by omega, upd_same, D5, rfl, by rw [List.length_drop]; have := R5.le; omega, rfl, by show 2 ≤ j4; omega⟩, ?_⟩
    rintro m σ H6 ⟨i', f, vs, ds, rfl, u6, R6, hii, hp6, D6, eL, hf, rfl, hvs⟩
    obtain ⟨dx6, h6⟩ := R6.meth
    refine ⟨_, rfl, r, dx6, _, rfl, h6, m_no.1, r, tl, tk, n0, i', rfl, R6, rfl, _, rfl, ?_⟩
    refine ite2 (fun c => ?_) (fun c => ?_)
    · have c : isW (tok0 (tk.drop i')) "or" = true := c
      have hi : i' < tk.length := fit_lt (fit := is "or") (by decide +kernel) c
      obtain ⟨f, rfl⟩ : ∃ f', f = f' + 1 := ⟨f - 1, by omega⟩
      have eF : pMore (blkN n) (f + 1) ds (tk.drop i') = (match blkN n (tk.drop (i' + 1)) with
        | .error e => .error e
        | .ok (d, r) => pMore (blkN n) f (ds ++ [d]) r) := by
        conv => lhs; unfold pMore
        rw [if_pos c, drop_tail]
      rw [eF] at eL
      refine ⟨fun σ' H' => ∃ m', m' < tk.length - i' ∧ W m' σ' H', fun _ _ h => h, ?_⟩
      refine ⟨_, rfl, r, dx6, _, rfl, h6, m_no.2.2.2.1, r, tl, tk, n0, i', rfl, R6, by decide +kernel, fun hw H7 hi7 R7 u7 => ?_, fun hw => absurd (c.symm.trans hw) (by decide)⟩
      have hp7 : H7 p = some (.lst vs) := u7 _ _ hrp.symm hp6
      refine ⟨_, rfl, .inl ⟨rfl, _, SqL.of hp7⟩, _, rfl, _, rfl, r, tl, tk, n0, i' + 1, rfl, R7, fun d8 rest8 e8 v8 H8 j8 hj8 hij8 R8 u8 D8 => ?_, fun rest e => (kf _ ?_).of R7.here (u6.trans u7)⟩
      · subst hj8
        rw [e8] at eL
        have hp8 : H8 p = some (.lst vs) := u8 _ _ hrp.symm hp7
        refine ⟨p, vs, v8, rfl, rfl, hp8, Nat.lt_of_le_of_lt (Nat.le_trans hvs (Nat.le_of_lt hi)) (Nat.lt_of_le_of_lt R.small.1 (by decide)), ?_⟩
        obtain ⟨dx8, h8⟩ := R8.meth
        have u9 := fresh (xs := vs ++ [v8]) (u6.trans (u7.trans u8))
        have ts8 := TStay.lst (o := .lst (vs ++ [v8])) hp8
        exact ⟨tk.length - j8, by omega, j8, f, vs ++ [v8], ds ++ [d8], rfl, u9, R.re u9 (by rw [upd_ne hrp]; exact h8) R8.le, by omega, upd_same, dtAll_snoc (dtAll_stay (TStay.trans (R6.dstay u7) (TStay.trans (R7.dstay u8) ts8)) ds vs D6) (dt_stay ts8 d8 v8 D8), eL, by omega, rfl, by simp; omega⟩
      · rw [e] at eL
        rw [e0 _ eL]
    · have c : ¬ isW (tok0 (tk.drop i')) "or" = true := c
      have eF : pMore (blkN n) f ds (tk.drop i') = .ok (ds, tk.drop i') := by
        cases f with
        | zero => rfl
        | succ f =>
          unfold pMore
          rw [if_neg c]
      rw [eF] at eL
      refine ⟨_, rfl, p, vs, rfl, .inl ⟨SqL.of hp6, fun q hq => ?_⟩⟩
      have st6 := Same.new (o := .tup vs) hq
      refine ⟨by show 2 ≤ sizeLine; decide, fun z hz => ?_⟩
      have st7 := Same.new (o := .tup [V.str "either", V.ref q]) hz
      have st8 := st6.trans st7
      exact kt (.tuple [.str "either", .tuple ds]) (tk.drop i') (by rw [e0 _ eL]) _ _ i' rfl (by omega) (R6.same st8) (u6.trans (Upto.of st8)) (.tup (SqT.of upd_same) (.cons (.str _) (.cons (.tup (SqT.of (st7 _ _ upd_same)) (dtAll_stay (TStay.of st8) ds vs D6)) .nil)))
/-- all of it, n blocks deep -/
structure Reads5 (P : Program) (w : World) (K : PySem.W.Frag) (mg : Str → Option Value) (base : Heap) (Z : Addrs) (n : Nat) : Prop where
  body : CalX P w K mg base (9 + 5 * n) "read_body" (spP K Z.C_Reader Z.C_BadText 0 [depth n] (bodyN n))
  braces : CalX P w K mg base (10 + 5 * n) "read_braces" (spP K Z.C_Reader Z.C_BadText 1 [depth n] (pBraces (bodyN n)))
theorem CalX.mono {k l : Nat} {x : Str} {sp : Sp} (c : CalX P w K mg base k x sp) (h : k ≤ l) : CalX P w K mg base l x sp := by
  obtain ⟨f, fd, ps, F, a, b, d⟩ := c.ex
  exact ⟨f, fd, ps, F.mono h, a, b, d⟩
theorem body_of_block (T : Txt K mg Z) {n l : Nat} (hl : 4 ≤ l) (c : CalX P w K mg base l "read_block" (spP K Z.C_Reader Z.C_BadText 1 [depth n] (blkN n))) : CalX P w K mg base (l + 3) "read_body" (spP K Z.C_Reader Z.C_BadText 0 [depth n] (bodyN n)) :=
  c_read_body T (by omega) (c_read_step T hl c (c_read_if T hl c) (c_read_try T hl c) (c_read_either T hl c))
theorem no_braces (T : Txt K mg Z) : CalX P w K mg base 5 "read_braces" (fun _ _ _ _ => False) := by
  refine calX_of (k := 4) T.d_read_braces sc_read_braces (fun vs H Q E h => h.elim) (fun f cdv A outer s H vs Q E hr h => h.elim)
theorem reads5 (T : Txt K mg Z) : ∀ n, Reads5 P w K mg base Z n
  | 0 => by
    have c := c_read_block0 (P := P) (w := w) (base := base) T (l := 5) (by omega) (no_braces T)
    have b := body_of_block T (by omega) c
    exact ⟨b, (c_read_braces T (by omega) b)⟩
  | n + 1 => by
    have ih := reads5 T n
    have c := c_read_blockS T (by omega) ih.braces
    have b := body_of_block T (by omega) c
    have b' : CalX P w K mg base (9 + 5 * (n + 1)) "read_body" (spP K Z.C_Reader Z.C_BadText 0 [depth (n + 1)] (bodyN (n + 1))) := b.mono (by omega)
    exact ⟨b', (c_read_braces T (by omega) b').mono (by omega)⟩
end

/-! ### 3e. read_steps -/
def pFin (n : Nat) : PR → Except Int PyData
  | .error r => .error (posOf n r)
  | .ok (d, []) => .ok d
  | .ok (_, t :: r) => .error (posOf n (t :: r))
def pSteps : Option (List Nat) → Except Int PyData
  | none => .error (-1)
  | some a => pFin a.length (bodyN 6 (toks a))
theorem pSteps_some {a : List Nat} {R : PR} (e : bodyN 6 (toks a) = R) : pSteps (some a) = pFin a.length R := by
  subst e
  rfl
/-- what a def that reads a text is -/
def spRead (K : PySem.W.Frag) (CB : Addr) (m : Option (List Nat) → Except Int PyData) : Sp := fun vs H Q E => ∃ v z, vs = [v] ∧ StrOr K H v z ∧
  (∀ d, m z = .ok d → ∀ u H', Same H H' → Dt K H' u d → Q u H') ∧ (∀ p, m z = .error p → ∀ d H', H d = none → Same H H' → H' d = some (.xd [("at", .int p)]) → E (.ref CB) (some d) H')
theorem tyx_same {K : PySem.W.Frag} {H H' : Hp} (e : Same H H') {v : V} {t : Value} (h : TyX K H v t) : TyX K H' v t := by
  cases h with
  | base b =>
    cases b with
    | non => exact .base .non
    | bl x => exact .base (.bl x)
    | int x => exact .base (.int x)
    | str x => exact .base (.str x)
    | flt x => exact .base (.flt x)
    | lst q => exact .base (.lst (e _ _ q))
    | frz q => exact .base (.frz (e _ _ q))
    | tup q => exact .base (.tup (e _ _ q))
    | dK q => exact .base (.dK (e _ _ q))
    | dT q => exact .base (.dT (e _ _ q))
    | ins q cl ha hn htk hm => exact .base (.ins (e _ _ q) cl ha hn htk hm)
  | byt b => exact .byt b
  | set q => exact .set (e _ _ q)
  | kList q c => exact .kList q c
  | kTuple q c => exact .kTuple q c
  | kDict q c => exact .kDict q c
  | fTuple q => exact .fTuple (e _ _ q)
  | fDict q => exact .fDict (e _ _ q)
theorem StrOr.mono {K : PySem.W.Frag} {H H' : Hp} {v : V} {z : Option (List Nat)} (e : Same H H') (h : StrOr K H v z) : StrOr K H' v z := by
  obtain ⟨t, ty, ki, hz⟩ := h
  exact ⟨t, tyx_same e ty, ki, hz⟩
theorem StrOr.same {K : PySem.W.Frag} {H H' : Hp} {a : List Nat} (h : StrOr K H (.str (S a)) (some a)) : StrOr K H' (.str (S a)) (some a) := by
  obtain ⟨t, ty, ki, hz⟩ := h
  exact ⟨_, .base (.str _), kit_ty (show kitB "str" "str" = some true by decide +kernel), hz⟩
theorem new_same {H H' : Hp} {x dx C : Addr} (nx : H x = none) (nd : H dx = none) (u : Upto x (upd (upd H dx (.own x)) x (.ins C dx [])) H') : Same H H' := fun b o e =>
  u b o (ne_of_none e nx) (by rw [upd_ne (ne_of_none e nx), upd_ne (ne_of_none e nd)]; exact e)
section
variable {P : Program} {w : World} {K : PySem.W.Frag} {mg : Str → Option Value} {base : Heap} {Z : Addrs}
theorem c_read_steps (T : Txt K mg Z) : CalX P w K mg base 40 "read_steps" (spRead K Z.C_BadText pSteps) := by
  have c_Reader___init__ : MakX P w K mg base 4 Z.C_Reader _ := c_Reader___init__ T
  have c_Reader_finish : MetX P w K mg base 3 Z.C_Reader "finish" _ := c_Reader_finish T
  have c_read_body : CalX P w K mg base 39 "read_body" _ := (reads5 T 6).body
  refine calX_of T.d_read_steps sc_read_steps (fun vs H Q E h => ?_) (fun f cdv A outer s H vs Q E hr h => ?_)
  · obtain ⟨v, z, rfl, _⟩ := h
    rfl
  · obtain ⟨v, z, rfl, hz, kt, kf⟩ := h
    refine ⟨_, (pss_cons (ps_set (i := 1) sc_read_steps.nd rfl (by first | exact Or.inl rfl | exact Or.inr rfl) (pe_mkX c_Reader___init__ hr (by omega) rfl T.k_Reader (passes_call (takes_of rfl rfl rfl rfl) fun _ _ _ _ h => h) (pa_cons (pv 0) pa_nil)))
      (pss_cons (ps_set (i := 2) sc_read_steps.nd rfl (by first | exact Or.inl rfl | exact Or.inr rfl) (pe_cX c_read_body hr (by omega) rfl (passes_call (takes_of rfl rfl rfl rfl) fun _ _ _ _ h => h) (pa_cons (pv 1) (pa_cons pe_int pa_nil))))
      (pss_cons (ps_expr (pe_mtX0 c_Reader_finish hr (by omega) (pv 1) (passes_call (takes_of rfl rfl rfl rfl) fun _ _ _ _ h => h) ))
      (pss_one (ps_ret (pv 2)))))), ?_⟩
    refine ⟨_, rfl, fun x dx nx nd ne => ?_⟩
    have s0 : Same H (upd (upd H dx (.own x)) x (.ins Z.C_Reader dx [])) := fun b o e => by rw [upd_ne (ne_of_none e nx), upd_ne (ne_of_none e nd)]; exact e
    cases z with
    | none =>
      exact ⟨x, dx, v, none, rfl, upd_same, hz.mono s0, (fun a e => by cases e), fun _ d H' hd s e => kf _ rfl d H' (s0.free hd) (s0.trans s) e⟩
    | some a =>
      obtain ⟨_, _, _, hv⟩ := id hz
      obtain ⟨rfl, hl⟩ := hv a rfl
      refine ⟨x, dx, _, some a, rfl, upd_same, hz.same, fun a' e TL H1 _ R1 u1 => ⟨rfl, ?_⟩, fun e => by cases e⟩
      cases e
      refine ⟨_, rfl, x, TL, toks a, a.length, 0, rfl, R1, fun d rest e2 v2 H2 j hj hij R2 u2 D2 => ?_, fun rest e2 => ?_⟩
      · subst hj
        obtain ⟨dx2, h2⟩ := R2.meth
        have sm := new_same nx nd (u1.trans u2)
        have e2 : bodyN 6 (toks a) = .ok (d, (toks a).drop j) := e2
        refine ⟨_, rfl, x, dx2, _, rfl, h2, m_no.2.2.2.2.2.2, x, TL, toks a, a.length, j, rfl, R2, fun he => ⟨_, rfl, ?_⟩, fun he d3 H3 hd u3 e3 => ?_⟩
        · exact kt d (by rw [pSteps_some e2, he]; rfl) v2 H2 sm D2
        · refine kf _ ?_ d3 H3 (sm.free hd) (new_same nx nd (u1.trans (u2.trans u3))) e3
          rw [pSteps_some e2]
          cases q : (toks a).drop j with
          | nil => exact absurd q he
          | cons t r => rfl
      · have e2 : bodyN 6 (toks a) = .error rest := e2
        intro d3 H3 hd u3 e3
        have sm := new_same nx nd u1
        exact kf _ (by rw [pSteps_some e2]; rfl) d3 H3 (sm.free hd) (new_same nx nd (u1.trans u3)) e3
end

/-! ### 4. bodies as trees: their data, their signs; signs are read back -/
inductive Stp where
  | word (w x : List Nat)
  | cls (w x : List Nat)
  | bare (w : List Nat)
  | loop (b : List Stp)
  | iff (x : List Nat) (a b : List Stp)
  | tr (a b : List Stp)
  | ei (bs : List (List Stp))
def kw (x : Str) : List Nat := x.cps.toList
theorem S_kw (x : Str) : S (kw x) = x := S_tl x
theorem isW_kw (x : Str) : isW (kw x) x = true := decide_eq_true (by rw [S_kw])
theorem isW_iff {a : List Nat} {x : Str} : isW a x = true ↔ a = kw x := by
  unfold isW kw
  rw [decide_eq_true_eq]
  constructor
  · intro e
    have := V.str.inj e
    rw [← this]
  · intro e
    rw [e, S_tl]
mutual
def datS : Stp → PyData
  | .word w x => .tuple [.str (S w), .str (S x)]
  | .cls w x => .tuple [.str (S w), .str (S x)]
  | .bare w => .tuple [.str (S w)]
  | .loop b => .tuple [.str "loop", .tuple (datB b)]
  | .iff x a b => .tuple [.str "if", .str (S x), .tuple (datB a), .tuple (datB b)]
  | .tr a b => .tuple [.str "try", .tuple (datB a), .tuple (datB b)]
  | .ei bs => .tuple [.str "either", .tuple (datL bs)]
def datB : List Stp → List PyData
  | [] => []
  | s :: b => datS s :: datB b
def datL : List (List Stp) → List PyData
  | [] => []
  | b :: bs => .tuple (datB b) :: datL bs
end
mutual
def sgS : Stp → List (List Nat)
  | .word w x => [w, x, kw ";"]
  | .cls w x => [w, x, kw ";"]
  | .bare w => [w, kw ";"]
  | .loop b => kw "loop" :: (kw "{" :: (sgB b ++ [kw "}"]))
  | .iff x a b => kw "if" :: x :: (kw "{" :: (sgB a ++ [kw "}"])) ++ kw "else" :: (kw "{" :: (sgB b ++ [kw "}"]))
  | .tr a b => kw "try" :: (kw "{" :: (sgB a ++ [kw "}"])) ++ kw "catch" :: (kw "{" :: (sgB b ++ [kw "}"]))
  | .ei bs => sgE true bs
def sgB : List Stp → List (List Nat)
  | [] => []
  | s :: b => sgS s ++ sgB b
def sgE : Bool → List (List Stp) → List (List Nat)
  | _, [] => []
  | f, b :: bs => (if f then kw "either" else kw "or") :: (kw "{" :: (sgB b ++ [kw "}"])) ++ sgE false bs
end
def sgK (b : List Stp) : List (List Nat) := kw "{" :: (sgB b ++ [kw "}"])
/-- well formed, ok for the blocks given -/
def okSt (okk : List Stp → Prop) : Stp → Prop
  | .word w x => inV (.str (S w)) withV = true ∧ wordL x = true
  | .cls w x => inV (.str (S w)) classV = true ∧ classL x = true
  | .bare w => w = kw "super" ∨ w = kw "fail"
  | .loop b => okk b
  | .iff x a b => wordL x = true ∧ okk a ∧ okk b
  | .tr a b => okk a ∧ okk b
  | .ei bs => 2 ≤ bs.length ∧ ∀ b ∈ bs, okk b
def okK : Nat → List Stp → Prop
  | 0, _ => False
  | n + 1, b => ∀ s ∈ b, okSt (okK n) s
def txs (ts : List Tok) : List (List Nat) := ts.map (·.2)
theorem tok0_strs {ts : List Tok} {x : List Nat} {r : List (List Nat)} (h : txs ts = x :: r) : tok0 ts = x ∧ txs ts.tail = r := by
  cases ts with
  | nil => cases h
  | cons t ts =>
    injection h with h1 h2
    exact ⟨h1, h2⟩
theorem pTok_s {fit : List Nat → Bool} {ts : List Tok} {x : List Nat} {r : List (List Nat)} (h : txs ts = x :: r) (hf : fit x = true) : pTok fit ts = .ok (x, ts.tail) ∧ txs ts.tail = r := by
  obtain ⟨e, er⟩ := tok0_strs h
  subst e
  exact ⟨pTok_t hf, er⟩
def ParsesK (blk : List Tok → PR) (okk : List Stp → Prop) : Prop := ∀ b ts r, okk b → txs ts = sgK b ++ r → ∃ rest, txs rest = r ∧ blk ts = .ok (.tuple (datB b), rest)
theorem with_ne {w : List Nat} (h : inV (.str (S w)) withV = true) : inV (.str (S w)) stepV = true ∧ isW w "loop" = false ∧ isW w "if" = false ∧ isW w "try" = false ∧ isW w "either" = false := by
  have h' : w = kw "set" ∨ w = kw "keep" ∨ w = kw "read" ∨ w = kw "look" ∨ w = kw "call" := by
    simp only [inV, withV, List.any_cons, List.any_nil, eqV, Bool.or_false, Bool.or_eq_true, beq_iff_eq] at h
    have g : ∀ {x : Str}, x = S w → w = kw x := fun {x} e => by rw [e]; rfl
    rcases h with h | h | h | h | h
    · exact .inl (g h)
    · exact .inr (.inl (g h))
    · exact .inr (.inr (.inl (g h)))
    · exact .inr (.inr (.inr (.inl (g h))))
    · exact .inr (.inr (.inr (.inr (g h))))
  rcases h' with rfl | rfl | rfl | rfl | rfl <;> decide +kernel
theorem class_ne {w : List Nat} (h : inV (.str (S w)) classV = true) : inV (.str (S w)) stepV = true ∧ isW w "loop" = false ∧ isW w "if" = false ∧ isW w "try" = false ∧ isW w "either" = false ∧ inV (.str (S w)) withV = false := by
  have h' : w = kw "of" ∨ w = kw "make" := by
    simp only [inV, classV, List.any_cons, List.any_nil, eqV, Bool.or_false, Bool.or_eq_true, beq_iff_eq] at h
    have g : ∀ {x : Str}, x = S w → w = kw x := fun {x} e => by rw [e]; rfl
    rcases h with h | h
    · exact .inl (g h)
    · exact .inr (g h)
  rcases h' with rfl | rfl <;> decide +kernel
theorem bare_ne {w : List Nat} (h : w = kw "super" ∨ w = kw "fail") : inV (.str (S w)) stepV = true ∧ isW w "loop" = false ∧ isW w "if" = false ∧ isW w "try" = false ∧ isW w "either" = false ∧ inV (.str (S w)) withV = false ∧ inV (.str (S w)) classV = false := by
  rcases h with rfl | rfl <;> decide +kernel
theorem more_ok {blk : List Tok → PR} {okk : List Stp → Prop} (B : ParsesK blk okk) : ∀ (bs : List (List Stp)) (acc : List PyData) (f : Nat) (ts : List Tok) (r : List (List Nat)), (∀ b ∈ bs, okk b) → txs ts = sgE false bs ++ r → r.head? ≠ some (kw "or") → bs.length < f →
    ∃ rest, txs rest = r ∧ pMore blk f acc ts = .ok (acc ++ datL bs, rest)
  | [], acc, f + 1, ts, r, _, h, hr, _ => by
    refine ⟨ts, h, ?_⟩
    unfold pMore
    have : isW (tok0 ts) "or" = false := by
      cases e : isW (tok0 ts) "or" with
      | false => rfl
      | true =>
        exfalso
        have e' := isW_iff.mp e
        cases ts with
        | nil => exact absurd e' (by decide +kernel)
        | cons t ts =>
          have h : txs (t :: ts) = r := h
          rw [← h] at hr
          exact hr (congrArg some e')
    rw [this, if_neg Bool.false_ne_true]
    show Except.ok (acc, ts) = Except.ok (acc ++ [], ts)
    rw [List.append_nil]
  | b :: bs, acc, f + 1, ts, r, hok, h, hr, hf => by
    have h : txs ts = kw "or" :: (sgK b ++ (sgE false bs ++ r)) := by
      rw [h]
      simp [sgE, sgK]
    obtain ⟨e0, et⟩ := tok0_strs h
    obtain ⟨r1, hr1, eb⟩ := B b _ _ (hok b (List.mem_cons_self ..)) et
    obtain ⟨r2, hr2, em⟩ := more_ok B bs (acc ++ [.tuple (datB b)]) f r1 r (fun c hc => hok c (List.mem_cons_of_mem _ hc)) hr1 hr (by simpa using hf)
    refine ⟨r2, hr2, ?_⟩
    unfold pMore
    rw [e0, isW_kw, if_pos rfl, eb]
    show pMore blk f (acc ++ [.tuple (datB b)]) r1 = _
    rw [em]
    simp [datL]
theorem step_ok {blk : List Tok → PR} {okk : List Stp → Prop} (B : ParsesK blk okk) (s : Stp) (ts : List Tok) (r : List (List Nat)) (hs : okSt okk s) (h : txs ts = sgS s ++ r) (hr : r.head? ≠ some (kw "or")) :
    ∃ rest, txs rest = r ∧ pStep blk ts = .ok (datS s, rest) ∧ inV (.str (S (tok0 ts))) stepV = true := by
  unfold pStep
  cases s with
  | word w x =>
    obtain ⟨h1, h2⟩ := hs
    obtain ⟨e0, et⟩ := tok0_strs h
    obtain ⟨n1, n2, n3, n4, n5⟩ := with_ne h1
    obtain ⟨p1, q1⟩ := pTok_s (fit := wordL) et h2
    obtain ⟨p2, q2⟩ := pTok_s (fit := is ";") q1 (isW_kw _)
    refine ⟨_, q2, ?_, by rw [e0]; exact n1⟩
    rw [e0]
    simp only [pStepW, n2, n3, n4, n5, Bool.false_eq_true, if_false, pSimple, h1, if_true, p1, pSemi, p2]
    rfl
  | cls w x =>
    obtain ⟨h1, h2⟩ := hs
    obtain ⟨e0, et⟩ := tok0_strs h
    obtain ⟨n1, n2, n3, n4, n5, n6⟩ := class_ne h1
    obtain ⟨p1, q1⟩ := pTok_s (fit := classL) et h2
    obtain ⟨p2, q2⟩ := pTok_s (fit := is ";") q1 (isW_kw _)
    refine ⟨_, q2, ?_, by rw [e0]; exact n1⟩
    rw [e0]
    simp only [pStepW, n2, n3, n4, n5, n6, Bool.false_eq_true, if_false, pSimple, h1, if_true, p1, pSemi, p2]
    rfl
  | bare w =>
    obtain ⟨e0, et⟩ := tok0_strs h
    obtain ⟨n1, n2, n3, n4, n5, n6, n7⟩ := bare_ne hs
    obtain ⟨p2, q2⟩ := pTok_s (fit := is ";") et (isW_kw _)
    refine ⟨_, q2, ?_, by rw [e0]; exact n1⟩
    rw [e0]
    simp only [pStepW, n2, n3, n4, n5, n6, n7, Bool.false_eq_true, if_false, pSimple, pSemi, p2]
    rfl
  | loop b =>
    have h : txs ts = kw "loop" :: (sgK b ++ r) := by rw [h]; simp [sgS, sgK]
    obtain ⟨e0, et⟩ := tok0_strs h
    obtain ⟨r1, hr1, eb⟩ := B b _ _ hs et
    refine ⟨r1, hr1, ?_, by rw [e0]; decide +kernel⟩
    rw [e0]
    simp only [pStepW, isW_kw, if_true, eb, S_kw]
    rfl
  | iff x a b =>
    obtain ⟨h1, h2, h3⟩ := hs
    have h : txs ts = kw "if" :: x :: (sgK a ++ kw "else" :: (sgK b ++ r)) := by rw [h]; simp [sgS, sgK]
    obtain ⟨e0, et⟩ := tok0_strs h
    obtain ⟨p1, q1⟩ := pTok_s (fit := wordL) et h1
    obtain ⟨r1, hr1, ea⟩ := B a _ _ h2 q1
    obtain ⟨p2, q2⟩ := pTok_s (fit := is "else") hr1 (isW_kw _)
    obtain ⟨r2, hr2, eb⟩ := B b _ _ h3 q2
    refine ⟨r2, hr2, ?_, by rw [e0]; decide +kernel⟩
    have m1 : isW (kw "if") "loop" = false := by decide +kernel
    rw [e0]
    simp only [pStepW, m1, isW_kw, Bool.false_eq_true, if_false, if_true, pIf, p1, ea, p2, eb]
    rfl
  | tr a b =>
    obtain ⟨h2, h3⟩ := hs
    have h : txs ts = kw "try" :: (sgK a ++ kw "catch" :: (sgK b ++ r)) := by rw [h]; simp [sgS, sgK]
    obtain ⟨e0, et⟩ := tok0_strs h
    obtain ⟨r1, hr1, ea⟩ := B a _ _ h2 et
    obtain ⟨p2, q2⟩ := pTok_s (fit := is "catch") hr1 (isW_kw _)
    obtain ⟨r2, hr2, eb⟩ := B b _ _ h3 q2
    refine ⟨r2, hr2, ?_, by rw [e0]; decide +kernel⟩
    have m1 : isW (kw "try") "loop" = false := by decide +kernel
    have m2 : isW (kw "try") "if" = false := by decide +kernel
    rw [e0]
    simp only [pStepW, m1, m2, isW_kw, Bool.false_eq_true, if_false, if_true, pTry, ea, p2, eb]
    rfl
  | ei bs =>
    obtain ⟨h2, h3⟩ := hs
    match bs, h2 with
    | a :: b :: bs, _ =>
      have h : txs ts = kw "either" :: (sgK a ++ kw "or" :: (sgK b ++ (sgE false bs ++ r))) := by rw [h]; simp [sgS, sgE, sgK]
      obtain ⟨e0, et⟩ := tok0_strs h
      obtain ⟨r1, hr1, ea⟩ := B a _ _ (h3 a (by simp)) et
      obtain ⟨p2, q2⟩ := pTok_s (fit := is "or") hr1 (isW_kw _)
      obtain ⟨r2, hr2, eb⟩ := B b _ _ (h3 b (by simp)) q2
      have len : bs.length < r2.length + 1 := by
        have e1 : (txs r2).length = r2.length := by simp [txs]
        rw [hr2, List.length_append] at e1
        have : ∀ (bs : List (List Stp)), bs.length ≤ (sgE false bs).length := by
          intro bs
          induction bs with
          | nil => exact Nat.le_refl _
          | cons c bs ih => simp [sgE]; omega
        have := this bs
        omega
      obtain ⟨r3, hr3, em⟩ := more_ok B bs [.tuple (datB a), .tuple (datB b)] (r2.length + 1) r2 r (fun c hc => h3 c (by simp [hc])) hr2 hr len
      refine ⟨r3, hr3, ?_, by rw [e0]; decide +kernel⟩
      have m1 : isW (kw "either") "loop" = false := by decide +kernel
      have m2 : isW (kw "either") "if" = false := by decide +kernel
      have m3 : isW (kw "either") "try" = false := by decide +kernel
      rw [e0]
      simp only [pStepW, m1, m2, m3, isW_kw, Bool.false_eq_true, if_false, if_true, pEither, ea, p2, eb, em]
      rfl
theorem sgS_pos (s : Stp) (okk : List Stp → Prop) (hs : okSt okk s) : 0 < (sgS s).length ∧ (sgS s).head? ≠ some (kw "or") := by
  cases s with
  | word w x => exact ⟨by simp [sgS], fun e => by
      have e : w = kw "or" := Option.some.inj e
      have h1 := hs.1
      rw [e] at h1
      exact absurd h1 (by decide +kernel)⟩
  | cls w x => exact ⟨by simp [sgS], fun e => by
      have e : w = kw "or" := Option.some.inj e
      have h1 := hs.1
      rw [e] at h1
      exact absurd h1 (by decide +kernel)⟩
  | bare w => exact ⟨by simp [sgS], fun e => by
      have e : w = kw "or" := Option.some.inj e
      rcases hs with h | h <;> (rw [e] at h; exact absurd h (by decide +kernel))⟩
  | loop b => exact ⟨by simp [sgS], fun e => absurd (Option.some.inj e) (by decide +kernel)⟩
  | iff x a b => exact ⟨by simp [sgS], fun e => absurd (Option.some.inj e) (by decide +kernel)⟩
  | tr a b => exact ⟨by simp [sgS], fun e => absurd (Option.some.inj e) (by decide +kernel)⟩
  | ei bs =>
    obtain ⟨h2, _⟩ := hs
    match bs, h2 with
    | a :: bs, _ => exact ⟨by simp [sgS, sgE], fun e => absurd (Option.some.inj e) (by decide +kernel)⟩
theorem loop_ok {blk : List Tok → PR} {okk : List Stp → Prop} (B : ParsesK blk okk) : ∀ (b : List Stp) (acc : List PyData) (f : Nat) (ts : List Tok) (r : List (List Nat)), (∀ s ∈ b, okSt okk s) → txs ts = sgB b ++ r → inV (.str (S (r.head?.getD []))) stepV = false → r.head? ≠ some (kw "or") → b.length < f →
    ∃ rest, txs rest = r ∧ pLoop (pStep blk) f acc ts = .ok (acc ++ datB b, rest)
  | [], acc, f + 1, ts, r, _, h, hr, _, _ => by
    refine ⟨ts, h, ?_⟩
    unfold pLoop
    have e : tok0 ts = r.head?.getD [] := by
      have h : txs ts = r := h
      rw [← h]
      cases ts <;> rfl
    rw [e, hr, if_neg Bool.false_ne_true]
    show Except.ok (acc, ts) = Except.ok (acc ++ [], ts)
    rw [List.append_nil]
  | s :: b, acc, f + 1, ts, r, hok, h, hr, ho, hf => by
    have h : txs ts = sgS s ++ (sgB b ++ r) := by rw [h]; simp [sgB]
    have hn : (sgB b ++ r).head? ≠ some (kw "or") := by
      cases b with
      | nil => exact ho
      | cons s2 b =>
        obtain ⟨l1, l2⟩ := sgS_pos s2 okk (hok s2 (by simp))
        show ((sgS s2 ++ sgB b) ++ r).head? ≠ _
        rw [List.append_assoc]
        cases e : sgS s2 with
        | nil => rw [e] at l1; exact absurd l1 (by decide)
        | cons x l =>
          rw [e] at l2
          exact l2
    obtain ⟨r1, hr1, es, ei⟩ := step_ok B s ts _ (hok s (by simp)) h hn
    obtain ⟨r2, hr2, el⟩ := loop_ok B b (acc ++ [datS s]) f r1 r (fun c hc => hok c (by simp [hc])) hr1 hr ho (by simpa using hf)
    refine ⟨r2, hr2, ?_⟩
    unfold pLoop
    rw [ei, if_pos rfl, es]
    show pLoop (pStep blk) f (acc ++ [datS s]) r1 = _
    rw [el]
    simp [datB]
theorem body_ok {blk : List Tok → PR} {okk : List Stp → Prop} (B : ParsesK blk okk) (b : List Stp) (ts : List Tok) (r : List (List Nat)) (hok : ∀ s ∈ b, okSt okk s) (h : txs ts = sgB b ++ r) (hr : inV (.str (S (r.head?.getD []))) stepV = false) (ho : r.head? ≠ some (kw "or")) :
    ∃ rest, txs rest = r ∧ pBodyOf (pStep blk) ts = .ok (.tuple (datB b), rest) := by
  have len : b.length < ts.length + 1 := by
    have e1 : (txs ts).length = ts.length := by simp [txs]
    rw [h, List.length_append] at e1
    have : ∀ (b : List Stp), (∀ s ∈ b, okSt okk s) → b.length ≤ (sgB b).length := by
      intro b
      induction b with
      | nil => intro _; exact Nat.le_refl _
      | cons s b ih =>
        intro h
        have h1 := (sgS_pos s okk (h s (by simp))).1
        have h2 := ih fun c hc => h c (by simp [hc])
        simp [sgB]
        omega
    have := this b hok
    omega
  obtain ⟨rest, h1, h2⟩ := loop_ok B b [] _ ts r hok h hr ho len
  refine ⟨rest, h1, ?_⟩
  unfold pBodyOf
  rw [h2]
  rfl
theorem blkN_ok : ∀ n, ParsesK (blkN n) (okK n)
  | 0 => fun _ _ _ h => h.elim
  | n + 1 => fun b ts r hok h => by
    have h : txs ts = kw "{" :: (sgB b ++ (kw "}" :: r)) := by rw [h]; simp [sgK]
    obtain ⟨p1, q1⟩ := pTok_s (fit := is "{") h (isW_kw _)
    have n1 : inV (.str (S ((kw "}" :: r).head?.getD []))) stepV = false := by
      show inV (.str (S (kw "}"))) stepV = false
      decide +kernel
    obtain ⟨r1, hr1, eb⟩ := body_ok (blkN_ok n) b ts.tail (kw "}" :: r) hok q1 n1 (fun e => absurd (Option.some.inj e) (by decide +kernel))
    obtain ⟨p2, q2⟩ := pTok_s (fit := is "}") hr1 (isW_kw _)
    refine ⟨_, q2, ?_⟩
    simp only [blkN, pBraces, p1, eb, p2]
/-- a body's signs are read as the body -/
theorem bodyN_ok {b : List Stp} {ts : List Tok} (hok : okK 7 b) (h : txs ts = sgB b) : bodyN 6 ts = .ok (.tuple (datB b), []) := by
  obtain ⟨rest, h1, h2⟩ := body_ok (blkN_ok 6) b ts [] hok (by rw [h, List.append_nil]) (by decide +kernel) (by simp)
  have : rest = [] := by simpa [txs] using h1
  subst this
  exact h2

/-! ### 5. texts and their tokens -/
inductive Spells : List Nat → List (List Nat) → Prop
  | nil : Spells [] []
  | blank {c : Nat} {l : List Nat} {ts : List (List Nat)} : blC c = true → Spells l ts → Spells (c :: l) ts
  | sign {c : Nat} {l : List Nat} {ts : List (List Nat)} : blC c = false → isL c = false → Spells l ts → Spells (c :: l) ([c] :: ts)
  | word {c : Nat} {w l : List Nat} {ts : List (List Nat)} : (∀ x ∈ c :: w, isL x = true) → (∀ x, l.head? = some x → isL x = false) → Spells l ts → Spells ((c :: w) ++ l) ((c :: w) :: ts)
theorem bl_cases {c : Nat} (h : blC c = true) : c = 32 ∨ c = 10 := by
  have e : (" \n" : Str).cps.toList = [32, 10] := by decide +kernel
  unfold blC at h
  rw [e, decide_eq_true_eq] at h
  simpa using h
theorem bl_letter {c : Nat} (h : blC c = true) : isL c = false := by
  rcases bl_cases h with rfl | rfl <;> decide +kernel
theorem letter_bl {c : Nat} (h : isL c = true) : blC c = false := by
  cases e : blC c with
  | false => rfl
  | true =>
    rw [bl_letter e] at h
    cases h
theorem tokEnd_one {a : List Nat} {i c : Nat} (hc : a[i]? = some c) (h : isL c = false) : tokEnd a i = i + 1 := by
  unfold tokEnd
  rw [hc]
  simp [h]
theorem drop_at {a l : List Nat} {i c : Nat} (h : a.drop i = c :: l) : i < a.length ∧ a[i]? = some c ∧ a.drop (i + 1) = l := by
  have h1 : i < a.length := by
    by_cases q : i < a.length
    · exact q
    · rw [List.drop_eq_nil_of_le (by omega)] at h
      cases h
  refine ⟨h1, ?_, ?_⟩
  · rw [← List.head?_drop, h]
    rfl
  · rw [← List.tail_drop, h]
    rfl
theorem takeWhile_word {w l : List Nat} (hw : ∀ x ∈ w, isL x = true) (hl : ∀ x, l.head? = some x → isL x = false) : (w ++ l).takeWhile isL = w := by
  induction w with
  | nil =>
    cases l with
    | nil => rfl
    | cons x l => simp [hl x rfl]
  | cons x w ih => simp [hw x (by simp), ih fun y hy => hw y (by simp [hy])]
theorem tokF_spells {l : List Nat} {ts : List (List Nat)} (h : Spells l ts) : ∀ (a : List Nat) (i f : Nat), a.drop i = l → a.length ≤ i + f → (tokF a f i).map (·.2) = ts := by
  induction h with
  | nil =>
    intro a i f hd hf
    have : a.length ≤ i := List.drop_eq_nil_iff.mp hd
    cases f with
    | zero => rfl
    | succ f =>
      unfold tokF
      rw [if_neg (by omega)]
      rfl
  | @blank c l ts hb h ih =>
    intro a i f hd hf
    obtain ⟨h1, h2, h3⟩ := drop_at hd
    obtain ⟨f, rfl⟩ : ∃ g, f = g + 1 := ⟨f - 1, by omega⟩
    unfold tokF
    rw [if_pos h1, h2]
    simp only [Option.elim_some, hb, if_true]
    rw [tokEnd_one h2 (bl_letter hb)]
    exact ih a (i + 1) f h3 (by omega)
  | @sign c l ts hb hl h ih =>
    intro a i f hd hf
    obtain ⟨h1, h2, h3⟩ := drop_at hd
    obtain ⟨f, rfl⟩ : ∃ g, f = g + 1 := ⟨f - 1, by omega⟩
    unfold tokF
    rw [if_pos h1, h2]
    simp only [Option.elim_some, hb, Bool.false_eq_true, if_false]
    rw [tokEnd_one h2 hl, hd, show i + 1 - i = 1 by omega]
    show [c] :: (tokF a f (i + 1)).map (·.2) = _
    rw [ih a (i + 1) f h3 (by omega)]
  | @word c w l ts hw hl h ih =>
    intro a i f hd hf
    obtain ⟨h1, h2, h3⟩ := drop_at hd
    obtain ⟨f, rfl⟩ : ∃ g, f = g + 1 := ⟨f - 1, by omega⟩
    have h3 : a.drop (i + 1) = w ++ l := h3
    have hc := hw c (by simp)
    have e : tokEnd a i = i + (c :: w).length := by
      unfold tokEnd
      rw [h2]
      simp only [Option.elim_some, hc, if_true]
      rw [h3, takeWhile_word (w := w) (fun x hx => hw x (List.mem_cons_of_mem _ hx)) hl]
      simp
      omega
    unfold tokF
    rw [if_pos h1, h2]
    simp only [Option.elim_some, letter_bl hc, Bool.false_eq_true, if_false]
    rw [e, hd, show i + (c :: w).length - i = (c :: w).length by omega]
    have e2 : ((c :: w) ++ l).take (c :: w).length = c :: w := List.take_left
    have e3 : (c :: (w ++ l)).take (c :: w).length = c :: w := e2
    show ((c :: (w ++ l)).take (c :: w).length) :: (tokF a f (i + (c :: w).length)).map (·.2) = _
    rw [e3, ih a _ f ?_ ?_]
    · rw [← List.drop_drop, hd]
      exact List.drop_left
    · simp
      omega
theorem toks_spells {a : List Nat} {ts : List (List Nat)} (h : Spells a ts) : txs (toks a) = ts := tokF_spells h a 0 a.length (by simp) (by omega)
/-- no letter begins it -/
def NoL (l : List Nat) : Prop := ∀ x, l.head? = some x → isL x = false
theorem Spells.blanks {l : List Nat} {ts : List (List Nat)} (h : Spells l ts) : ∀ bs : List Nat, (∀ c ∈ bs, blC c = true) → Spells (bs ++ l) ts
  | [], _ => h
  | c :: bs, hb => .blank (hb c (by simp)) (Spells.blanks h bs fun x hx => hb x (by simp [hx]))
theorem Spells.wd {w l : List Nat} {ts : List (List Nat)} (h : Spells l ts) (hn : w ≠ []) (hw : ∀ x ∈ w, isL x = true) (hl : NoL l) : Spells (w ++ l) (w :: ts) := by
  cases w with
  | nil => exact absurd rfl hn
  | cons c w => exact .word hw hl h
theorem noL_cons {c : Nat} {l : List Nat} (h : isL c = false) : NoL (c :: l) := fun x e => by cases e; exact h
/-- a token: letters, or one sign -/
def IsTok (t : List Nat) : Prop := (t ≠ [] ∧ ∀ x ∈ t, isL x = true) ∨ ∃ c, t = [c] ∧ blC c = false ∧ isL c = false
theorem Spells.tok {t l : List Nat} {ts : List (List Nat)} (h : Spells l ts) (ht : IsTok t) (hl : (∃ c, t = [c] ∧ isL c = false) ∨ NoL l) : Spells (t ++ l) (t :: ts) := by
  rcases ht with ⟨hn, hw⟩ | ⟨c, rfl, h1, h2⟩
  · rcases hl with ⟨c, rfl, h2⟩ | hl
    · rw [hw c (by simp)] at h2
      cases h2
    · exact h.wd hn hw hl
  · exact .sign h1 h2 h
theorem word_tok {a : List Nat} (h : wordL a = true) : a ≠ [] ∧ ∀ x ∈ a, isL x = true := by
  simp only [wordL, Bool.and_eq_true, decide_eq_true_eq] at h
  refine ⟨fun e => by rw [e] at h; simp at h, fun x hx => ?_⟩
  have := List.all_eq_true.mp h.2.2.1 x hx
  simp [isL, this]
theorem class_tok {a : List Nat} (h : classL a = true) : a ≠ [] ∧ ∀ x ∈ a, isL x = true := by
  simp only [classL, Bool.and_eq_true, decide_eq_true_eq] at h
  obtain ⟨h1, _, h3, h4⟩ := h
  cases a with
  | nil => simp at h1
  | cons c l =>
    refine ⟨by simp, fun x hx => ?_⟩
    rcases List.mem_cons.mp hx with rfl | hx
    · have h3 : capC x = true := h3
      simp [isL, h3]
    · have := List.all_eq_true.mp h4 x (by simpa using hx)
      simp [isL, this]
/-! canonical texts -/
def blkT (ls : List (List Nat)) : List Nat := if ls.isEmpty = true then kw "{ }" else kw "{ " ++ (TL.joinL [32] ls ++ kw " }")
mutual
def wrS : Stp → List Nat
  | .word w x => w ++ 32 :: (x ++ [59])
  | .cls w x => w ++ 32 :: (x ++ [59])
  | .bare w => w ++ [59]
  | .loop b => kw "loop " ++ blkT (wrL b)
  | .iff x a b => kw "if " ++ x ++ [32] ++ blkT (wrL a) ++ kw " else " ++ blkT (wrL b)
  | .tr a b => kw "try " ++ blkT (wrL a) ++ kw " catch " ++ blkT (wrL b)
  | .ei bs => kw "either " ++ TL.joinL (kw " or ") (wrK bs)
def wrL : List Stp → List (List Nat)
  | [] => []
  | s :: b => wrS s :: wrL b
def wrK : List (List Stp) → List (List Nat)
  | [] => []
  | b :: bs => blkT (wrL b) :: wrK bs
end
def wrB (b : List Stp) : List Nat := TL.joinL [32] (wrL b)
theorem join_cons (s : List Nat) (p : List Nat) : ∀ r : List (List Nat), TL.joinL s (p :: r) = p ++ (if r.isEmpty then [] else s ++ TL.joinL s r)
  | [] => by simp [TL.joinL]
  | q :: r => by simp [TL.joinL]
/-- a piece spells its signs, whatever follows -/
def SpellsAny (a : List Nat) (ts : List (List Nat)) : Prop := ∀ l r, Spells l r → Spells (a ++ l) (ts ++ r)
theorem SpellsAny.app {a b : List Nat} {ts us : List (List Nat)} (h : SpellsAny a ts) (k : SpellsAny b us) : SpellsAny (a ++ b) (ts ++ us) := fun l r q => by
  rw [List.append_assoc, List.append_assoc]
  exact h _ _ (k _ _ q)
theorem SpellsAny.spells {a : List Nat} {ts : List (List Nat)} (h : SpellsAny a ts) : Spells a ts := by
  have := h [] [] .nil
  rwa [List.append_nil, List.append_nil] at this
theorem any_blank : SpellsAny [32] [] := fun l r q => .blank (by decide +kernel) q
theorem any_nil : SpellsAny [] [] := fun _ _ q => q
/-- a word and a blank -/
theorem any_word {w : List Nat} (h : w ≠ [] ∧ ∀ x ∈ w, isL x = true) : SpellsAny (w ++ [32]) [w] := fun l r q => by
  rw [List.append_assoc]
  exact Spells.wd (.blank (by decide +kernel) q) h.1 h.2 (noL_cons (by decide +kernel))
theorem any_sign {c : Nat} (h1 : blC c = false) (h2 : isL c = false) : SpellsAny [c] [[c]] := fun l r q => .sign h1 h2 q
/-- a word and a sign -/
theorem any_ws {w : List Nat} {c : Nat} (h : w ≠ [] ∧ ∀ x ∈ w, isL x = true) (h1 : blC c = false) (h2 : isL c = false) : SpellsAny (w ++ [c]) [w, [c]] := fun l r q => by
  rw [List.append_assoc]
  exact Spells.wd (.sign h1 h2 q) h.1 h.2 (noL_cons h2)
theorem any_cast {a b : List Nat} {ts us : List (List Nat)} (h : SpellsAny a ts) (e : a = b) (f : ts = us) : SpellsAny b us := by
  subst e f
  exact h
def wOk (x : Str) : Bool := !(kw x).isEmpty && (kw x).all isL
theorem kw_ok {x : Str} (h : wOk x = true) : kw x ≠ [] ∧ ∀ c ∈ kw x, isL c = true := by
  simp only [wOk, Bool.and_eq_true, Bool.not_eq_true'] at h
  exact ⟨fun e => by rw [e] at h; simp at h, List.all_eq_true.mp h.2⟩
theorem any_semi {w : List Nat} (h : w ≠ [] ∧ ∀ x ∈ w, isL x = true) : SpellsAny (w ++ [59]) [w, kw ";"] :=
  any_cast (any_ws (c := 59) h (by decide +kernel) (by decide +kernel)) rfl (by rw [show kw ";" = [59] by decide +kernel])
theorem with_tok {w : List Nat} (h : inV (.str (S w)) stepV = true) : w ≠ [] ∧ ∀ x ∈ w, isL x = true := by
  have h' : w ∈ [kw "set", kw "keep", kw "read", kw "look", kw "call", kw "of", kw "make", kw "super", kw "fail", kw "loop", kw "if", kw "try", kw "either"] := by
    simp only [inV, stepV, List.any_cons, List.any_nil, eqV, Bool.or_false, Bool.or_eq_true, beq_iff_eq] at h
    have g : ∀ {x : Str}, x = S w → w = kw x := fun {x} e => by rw [e]; rfl
    simp only [List.mem_cons, List.not_mem_nil, or_false]
    rcases h with h | h | h | h | h | h | h | h | h | h | h | h | h <;> simp only [g h] <;> simp
  have k : ∀ v ∈ [kw "set", kw "keep", kw "read", kw "look", kw "call", kw "of", kw "make", kw "super", kw "fail", kw "loop", kw "if", kw "try", kw "either"], (!v.isEmpty && v.all isL) = true := by
    rw [← List.all_eq_true]
    decide +kernel
  have := k w h'
  simp only [Bool.and_eq_true, Bool.not_eq_true'] at this
  exact ⟨fun e => by rw [e] at this; simp at this, List.all_eq_true.mp this.2⟩
def SpK (okk : List Stp → Prop) : Prop := ∀ b, okk b → SpellsAny (blkT (wrL b)) (sgK b)
theorem spE {okk : List Stp → Prop} (B : SpK okk) : ∀ (bs : List (List Stp)) (f : Bool), (∀ b ∈ bs, okk b) → bs ≠ [] → SpellsAny ((if f then kw "either " else kw "or ") ++ TL.joinL (kw " or ") (wrK bs)) (sgE f bs)
  | [], _, _, h => absurd rfl h
  | b :: bs, f, hok, _ => by
    have h0 : SpellsAny (if f then kw "either " else kw "or ") [if f then kw "either" else kw "or"] := by
      cases f
      · exact any_cast (any_word (kw_ok (x := "or") (by decide +kernel))) (by decide +kernel) rfl
      · exact any_cast (any_word (kw_ok (x := "either") (by decide +kernel))) (by decide +kernel) rfl
    have h1 := h0.app (B b (hok b (by simp)))
    show SpellsAny (_ ++ TL.joinL (kw " or ") (blkT (wrL b) :: wrK bs)) _
    rw [join_cons]
    by_cases e : bs = []
    · subst e
      refine any_cast h1 (by simp [wrK]) (by simp [sgE, sgK])
    · have h2 := spE B bs false (fun c hc => hok c (by simp [hc])) e
      have e3 : kw " or " = [32] ++ kw "or " := by decide +kernel
      have ne : (wrK bs).isEmpty = false := by
        cases bs with
        | nil => exact absurd rfl e
        | cons c bs => rfl
      refine any_cast (h1.app (any_blank.app h2)) ?_ (by simp [sgE, sgK])
      rw [ne]
      simp [e3]
theorem spS {okk : List Stp → Prop} (B : SpK okk) (s : Stp) (hs : okSt okk s) : SpellsAny (wrS s) (sgS s) := by
  cases s with
  | word w x => exact any_cast ((any_word (with_tok (with_ne hs.1).1)).app (any_semi (word_tok hs.2))) (by simp [wrS]) rfl
  | cls w x => exact any_cast ((any_word (with_tok (class_ne hs.1).1)).app (any_semi (class_tok hs.2))) (by simp [wrS]) rfl
  | bare w => exact any_semi (with_tok (bare_ne hs).1)
  | loop b => exact any_cast ((any_word (kw_ok (x := "loop") (by decide +kernel))).app (B b hs)) (by rw [show kw "loop" ++ [32] = kw "loop " by decide +kernel]; rfl) rfl
  | iff x a b =>
    obtain ⟨h1, h2, h3⟩ := hs
    refine any_cast ((any_word (kw_ok (x := "if") (by decide +kernel))).app ((any_word (word_tok h1)).app ((B a h2).app (any_blank.app ((any_word (kw_ok (x := "else") (by decide +kernel))).app (B b h3)))))) ?_ (by simp [sgS, sgK])
    rw [show kw "if" ++ [32] = kw "if " by decide +kernel]
    have : kw " else " = [32] ++ (kw "else" ++ [32]) := by decide +kernel
    simp [wrS, this]
  | tr a b =>
    obtain ⟨h2, h3⟩ := hs
    refine any_cast ((any_word (kw_ok (x := "try") (by decide +kernel))).app ((B a h2).app (any_blank.app ((any_word (kw_ok (x := "catch") (by decide +kernel))).app (B b h3))))) ?_ (by simp [sgS, sgK])
    rw [show kw "try" ++ [32] = kw "try " by decide +kernel]
    have : kw " catch " = [32] ++ (kw "catch" ++ [32]) := by decide +kernel
    simp [wrS, this]
  | ei bs =>
    obtain ⟨h2, h3⟩ := hs
    exact any_cast (spE B bs true h3 (fun e => by rw [e] at h2; simp at h2)) rfl rfl
theorem spB {okk : List Stp → Prop} (B : SpK okk) : ∀ b : List Stp, (∀ s ∈ b, okSt okk s) → SpellsAny (wrB b) (sgB b)
  | [], _ => any_nil
  | s :: b, hok => by
    have h1 := spS B s (hok s (by simp))
    have h2 := spB B b fun c hc => hok c (by simp [hc])
    unfold wrB at h2 ⊢
    show SpellsAny (TL.joinL [32] (wrS s :: wrL b)) _
    rw [join_cons]
    by_cases e : b = []
    · subst e
      exact any_cast h1 (by simp [wrL]) (by simp [sgB])
    · have ne : (wrL b).isEmpty = false := by
        cases b with
        | nil => exact absurd rfl e
        | cons c b => rfl
      exact any_cast (h1.app (any_blank.app h2)) (by rw [ne]; simp) (by simp [sgB])
theorem spN : ∀ n, SpK (okK n)
  | 0 => fun _ h => h.elim
  | n + 1 => fun b hok => by
    have h := spB (spN n) b hok
    have o : SpellsAny [123] [kw "{"] := any_cast (any_sign (c := 123) (by decide +kernel) (by decide +kernel)) rfl (by decide +kernel)
    have c : SpellsAny [125] [kw "}"] := any_cast (any_sign (c := 125) (by decide +kernel) (by decide +kernel)) rfl (by decide +kernel)
    unfold blkT
    by_cases e : b = []
    · subst e
      exact any_cast (o.app (any_blank.app c)) (by decide +kernel) (by simp [sgK, sgB])
    · have ne : (wrL b).isEmpty = false := by
        cases b with
        | nil => exact absurd rfl e
        | cons c b => rfl
      rw [ne, if_neg Bool.false_ne_true]
      have e1 : kw "{ " = [123] ++ [32] := by decide +kernel
      have e2 : kw " }" = [32] ++ [125] := by decide +kernel
      exact any_cast (o.app (any_blank.app (h.app (any_blank.app c)))) (by rw [e1, e2]; simp [wrB]) (by simp [sgK])
theorem sp_body {n : Nat} {b : List Stp} (h : okK (n + 1) b) : SpellsAny (wrB b) (sgB b) := spB (spN n) b h

/-! ### 6. bodies are written -/
theorem iteY {c A B : Prop} [Decidable c] (hc : c) (h : A) : if (decide c) = true then A else B := by
  rw [decide_eq_true hc]
  exact iteT h
theorem iteN {c A B : Prop} [Decidable c] (hc : ¬ c) (h : B) : if (decide c) = true then A else B := by
  rw [decide_eq_false hc]
  exact iteF h
theorem dtAll_get {K : PySem.W.Frag} {H : Hp} : ∀ {vs : List V} {ds : List PyData} {i : Nat} {v : V}, DtAll K H vs ds → vs[i]? = some v → ∃ d, ds[i]? = some d ∧ Dt K H v d
  | _, _, 0, _, .cons a _, h => by cases h; exact ⟨_, rfl, a⟩
  | _, _, i + 1, _, .cons _ b, h => dtAll_get (i := i) b h
theorem datB_get : ∀ {b : List Stp} {i : Nat} {d : PyData}, (datB b)[i]? = some d → ∃ s, b[i]? = some s ∧ d = datS s
  | s :: b, 0, d, h => by
    simp only [datB] at h
    cases h
    exact ⟨s, rfl, rfl⟩
  | s :: b, i + 1, d, h => by
    simp only [datB] at h
    exact datB_get (b := b) (i := i) h
  | [], i, d, h => by simp [datB] at h
theorem datL_get : ∀ {b : List (List Stp)} {i : Nat} {d : PyData}, (datL b)[i]? = some d → ∃ s, b[i]? = some s ∧ d = .tuple (datB s)
  | s :: b, 0, d, h => by
    simp only [datL] at h
    cases h
    exact ⟨s, rfl, rfl⟩
  | s :: b, i + 1, d, h => by
    simp only [datL] at h
    exact datL_get (b := b) (i := i) h
  | [], i, d, h => by simp [datL] at h
theorem wrL_get : ∀ {b : List Stp} {i : Nat} {s : Stp}, b[i]? = some s → (wrL b)[i]? = some (wrS s)
  | s :: b, 0, _, h => by cases h; rfl
  | s :: b, i + 1, _, h => wrL_get (b := b) (i := i) h
theorem wrK_get : ∀ {b : List (List Stp)} {i : Nat} {s : List Stp}, b[i]? = some s → (wrK b)[i]? = some (blkT (wrL s))
  | s :: b, 0, _, h => by cases h; rfl
  | s :: b, i + 1, _, h => wrK_get (b := b) (i := i) h
theorem datB_len : ∀ b : List Stp, (datB b).length = b.length
  | [] => rfl
  | _ :: b => congrArg Nat.succ (datB_len b)
theorem datL_len : ∀ b : List (List Stp), (datL b).length = b.length
  | [] => rfl
  | _ :: b => congrArg Nat.succ (datL_len b)
theorem wrL_len : ∀ b : List Stp, (wrL b).length = b.length
  | [] => rfl
  | _ :: b => congrArg Nat.succ (wrL_len b)
theorem wrK_len : ∀ b : List (List Stp), (wrK b).length = b.length
  | [] => rfl
  | _ :: b => congrArg Nat.succ (wrK_len b)
theorem join_mem {s : List Nat} {p : List Nat} : ∀ {r : List (List Nat)}, p ∈ r → p.length ≤ (TL.joinL s r).length
  | q :: r, h => by
    rw [join_cons, List.length_append]
    rcases List.mem_cons.mp h with rfl | h
    · omega
    · have := join_mem (s := s) h
      cases r with
      | nil => cases h
      | cons a r =>
        show p.length ≤ q.length + (s ++ TL.joinL s (a :: r)).length
        rw [List.length_append]
        omega
theorem join_tot {s : List Nat} : ∀ r : List (List Nat), (r.map (·.length)).sum + r.length * s.length ≤ (TL.joinL s r).length + s.length
  | [] => by simp [TL.joinL]
  | q :: r => by
    have ih := join_tot (s := s) r
    rw [join_cons, List.length_append]
    cases r with
    | nil => simp
    | cons a r =>
      simp only [List.map_cons, List.sum_cons, List.length_cons, List.isEmpty_cons, Bool.false_eq_true, if_false, List.length_append] at ih ⊢
      have e : (r.length + 1 + 1) * s.length = (r.length + 1) * s.length + s.length := Nat.succ_mul _ _
      omega
theorem blkT_len (ls : List (List Nat)) : (TL.joinL [32] ls).length ≤ (blkT ls).length := by
  unfold blkT
  cases ls with
  | nil => exact Nat.zero_le _
  | cons a l =>
    rw [if_neg (by simp)]
    simp only [List.length_append]
    omega
def txV (l : List (List Nat)) : List V := (l.map S).map V.str
section
variable {P : Program} {w : World} {K : PySem.W.Frag} {mg : Str → Option Value} {base : Heap} {Z : Addrs}
def spWS (K : PySem.W.Frag) (okk : List Stp → Prop) : Sp := fun vs H Q _ => ∃ v s, vs = [v] ∧ Dt K H v (datS s) ∧ okSt okk s ∧ (wrS s).length ≤ 100000 ∧ ∀ H', Same H H' → Q (.str (S (wrS s))) H'
def spWB (K : PySem.W.Frag) (okk : List Stp → Prop) : Sp := fun vs H Q _ => ∃ v b, vs = [v] ∧ Dt K H v (.tuple (datB b)) ∧ (∀ s ∈ b, okSt okk s) ∧ (wrB b).length ≤ 100000 ∧ ∀ H', Same H H' → Q (.str (S (wrB b))) H'
def spWK (K : PySem.W.Frag) (okk : List Stp → Prop) : Sp := fun vs H Q _ => ∃ v b, vs = [v] ∧ Dt K H v (.tuple (datB b)) ∧ okk b ∧ (blkT (wrL b)).length ≤ 100000 ∧ ∀ H', Same H H' → Q (.str (S (blkT (wrL b)))) H'
theorem c_write_steps (T : Txt K mg Z) {okk : List Stp → Prop} {l : Nat} (c_write_step : Cal P w K mg base l "write_step" (spWS K okk) []) : Cal P w K mg base (l + 1) "write_steps" (spWB K okk) [] := by
  refine cal_of T.d_write_steps sc_write_steps (fun vs H Q E h => ?_) (fun f cdv A outer s H vs Q E hr h => ?_)
  · obtain ⟨v, b, rfl, _⟩ := h
    rfl
  · obtain ⟨v, b, rfl, D, hok, hl, k⟩ := h
    cases D with
    | @tup p xs _ hT hA =>
      have lx := dtAll_len hA
      refine ⟨_, (pss_one (ps_ret (pe_bm PySem.F.plainAttrs_str PySem.F.slot_str_join PySem.F.type_str_join mt_join pe_str (pa_cons (pe_lc (own := [("step", 1)]) (g := gName 1) (tt := tYes) rfl sc_write_steps.nd (pi_tup (pv 0)) (blkOk_by (N := ["body", "step"]) (sc := defScope s_write_steps) (by decide +kernel)) (fun _ _ _ _ _ => (pg_name (i := 1) sc_write_steps.nd rfl (by first | exact Or.inl rfl | exact Or.inr rfl))) (fun _ _ _ _ _ => pts_nil) (fun _ _ _ _ _ => (pe_c c_write_step hr (by omega) rfl (pa_cons (pv 1) pa_nil)))) pa_nil)))), ?_⟩
      refine ⟨rfl, _, rfl, p, rfl, ⟨_, hT⟩, fun D hD => ?_⟩
      have hTs : ∀ {H' : Hp}, Same H H' → SqT K H' p xs := fun e => hT.elim (fun z => .inl ((TStay.of e).rd z)) .inr
      have tot := join_tot (s := [32]) (wrL b)
      refine lc_tup (xs := xs) (fun i H1 => Same H H1 ∧ H1 D = some (.lst (txV ((wrL b).take i)))) ⟨Same.new hD, upd_same⟩ (fun i H1 _ h => hTs h.1) ?_ ?_
      · rintro i x H1 hx ⟨S1, hD1⟩
        obtain ⟨d, hd, Dx⟩ := dtAll_get hA hx
        obtain ⟨s, hs, rfl⟩ := datB_get hd
        have hw := wrL_get hs
        have hm := join_mem (s := [32]) (List.mem_of_getElem? hw)
        refine ⟨rfl, ?_⟩
        refine iteT (B := Same H H1 ∧ H1 D = some (.lst (txV ((wrL b).take (i + 1))))) ?_
        refine ⟨_, rfl, x, s, rfl, dt_stay (TStay.of S1) _ _ Dx, hok s (List.mem_of_getElem? hs), Nat.le_trans hm hl, fun H2 e2 => ⟨_, e2 _ _ hD1, ?_, ?_, ?_⟩⟩
        · refine Nat.lt_of_le_of_lt ?_ (by decide : 100001 < sizeLine)
          have h1 : (wrL b).length ≤ (TL.joinL [32] (wrL b)).length + 1 := by
            simp only [List.length_cons, List.length_nil, Nat.zero_add, Nat.mul_one] at tot
            omega
          simp only [txV, List.length_map]
          have h2 : (TL.joinL [32] (wrL b)).length ≤ 100000 := hl
          have h3 := List.length_take_le' i (wrL b)
          omega
        · intro a o e
          rw [upd_ne (ne_of_none e hD)]
          exact e2 _ _ (S1 _ _ e)
        · rw [upd_same, List.take_add_one, hw]
          simp [txV]
      · rintro H1 ⟨S1, hD1⟩
        have e0 : (wrL b).take xs.length = wrL b := List.take_of_length_le (by rw [wrL_len, lx, datB_len]; exact Nat.le_refl _)
        rw [e0] at hD1
        refine ⟨" ", D, (wrL b).map S, rfl, rfl, .inl (SqL.of hD1), ?_, ?_⟩
        · rw [SX.lens, List.length_map]
          have e1 : (" " : Str).length = 1 := by decide +kernel
          have h2 : (TL.joinL [32] (wrL b)).length ≤ 100000 := hl
          rw [e1]
          simp only [List.length_cons, List.length_nil, Nat.zero_add] at tot
          omega
        · have e1 : (" " : Str) = S [32] := by decide +kernel
          rw [e1, SX.join_S]
          exact k H1 S1
theorem c_write_block0 (T : Txt K mg Z) : Cal P w K mg base 1 "write_block" (spWK K (okK 0)) [] := by
  refine cal_of (k := 0) T.d_write_block sc_write_block (fun vs H Q E h => ?_) (fun f cdv A outer s H vs Q E hr h => ?_)
  · obtain ⟨v, b, rfl, _⟩ := h
    rfl
  · obtain ⟨v, b, rfl, _, h, _⟩ := h
    exact h.elim
theorem c_write_blockS (T : Txt K mg Z) {n l : Nat} (c_write_steps : Cal P w K mg base l "write_steps" (spWB K (okK n)) []) : Cal P w K mg base (l + 1) "write_block" (spWK K (okK (n + 1))) [] := by
  refine cal_of T.d_write_block sc_write_block (fun vs H Q E h => ?_) (fun f cdv A outer s H vs Q E hr h => ?_)
  · obtain ⟨v, b, rfl, _⟩ := h
    rfl
  · obtain ⟨v, b, rfl, D, hok, hl, k⟩ := h
    refine ⟨_, (pss_cons (ps_if (pt_cmpR op_eq (pe_callB call_len_seq (by rfl) T.b_len (by decide +kernel) (pa_cons (pv 0) pa_nil)) pe_int (nomark _)) (pss_one (ps_ret pe_str)) pss_nil)
      (pss_one (ps_ret (pe_op op_add_str (pe_op op_add_str pe_str (pe_c c_write_steps hr (by omega) rfl (pa_cons (pv 0) pa_nil))) pe_str)))), ?_⟩
    cases id D with
    | @tup p xs _ hT hA =>
      have lx := dtAll_len hA
      rw [datB_len] at lx
      refine ⟨_, rfl, p, xs, rfl, .inr hT, rfl, _, rfl, ?_⟩
      have iff0 : (V.int (xs.length : Nat) = V.int 0) ↔ b = [] := by
        rw [lx]
        constructor
        · intro e
          have : ((b.length : Nat) : Int) = 0 := V.int.inj e
          exact List.eq_nil_of_length_eq_zero (by omega)
        · rintro rfl
          rfl
      by_cases e : b = []
      · refine iteY (iff0.mpr e) ?_
        subst e
        have := k H (Same.refl H)
        rw [show S (blkT (wrL [])) = ("{ }" : Str) by decide +kernel] at this
        exact this
      · refine iteN (fun z => e (iff0.mp z)) ?_
        have hb : (wrB b).length ≤ 100000 := Nat.le_trans (blkT_len _) hl
        have ne : (wrL b).isEmpty = false := by
          cases b with
          | nil => exact absurd rfl e
          | cons c b => rfl
        have eT : blkT (wrL b) = kw "{ " ++ (wrB b ++ kw " }") := by
          unfold blkT
          rw [ne, if_neg Bool.false_ne_true]
          rfl
        have l1 : ("{ " : Str).length = 2 := by decide +kernel
        have l2 : (" }" : Str).length = 2 := by decide +kernel
        refine ⟨_, rfl, _, b, rfl, D, hok, hb, fun H1 e1 => ⟨_, _, rfl, rfl, by rw [l1, S_len]; exact Nat.le_trans (by omega : 2 + (wrB b).length ≤ 100004) (by decide), _, _, rfl, rfl, ?_, ?_⟩⟩
        · rw [Str.length_append, l1, l2, S_len]
          refine Nat.le_trans (by omega : 2 + (wrB b).length + 2 ≤ 100004) (by decide)
        · have := k H1 e1
          rw [eT, ← S_cat, ← S_cat, S_kw, S_kw] at this
          have ea : ("{ " : Str) ++ (S (wrB b) ++ (" }" : Str)) = ("{ " : Str) ++ S (wrB b) ++ (" }" : Str) := by
            rw [← S_kw "{ ", ← S_kw " }", S_cat, S_cat, S_cat, S_cat, List.append_assoc]
          rw [ea] at this
          exact this
theorem ne_str {x y : Str} (h : ¬ x = y) : ¬ V.str x = V.str y := fun e => h (V.str.inj e)
theorem notW {a : List Nat} {x : Str} (h : isW a x = false) : ¬ V.str (S a) = V.str x := fun e => by
  rw [isW, decide_eq_true e] at h
  cases h
theorem str_app3 (a b c : Str) : a ++ (b ++ c) = a ++ b ++ c := by
  rw [← S_tl a, ← S_tl b, ← S_tl c, S_cat, S_cat, S_cat, S_cat, List.append_assoc]
/-- the longest piece of a step's text -/
theorem okl {a b : Str} {n : Nat} (h : a.length + b.length ≤ n) (hn : n ≤ 100004) : a.length + b.length ≤ sizeLine := Nat.le_trans (Nat.le_trans h hn) (by decide)
theorem c_write_step (T : Txt K mg Z) {okk : List Stp → Prop} {l : Nat} (c_write_block : Cal P w K mg base l "write_block" (spWK K okk) []) : Cal P w K mg base (l + 1) "write_step" (spWS K okk) [] := by
  refine cal_of T.d_write_step sc_write_step (fun vs H Q E h => ?_) (fun f cdv A outer s H vs Q E hr h => ?_)
  · obtain ⟨v, s, rfl, _⟩ := h
    rfl
  · obtain ⟨v, s, rfl, D, hok, hl, k⟩ := h
    refine ⟨_, (pss_cons (ps_set (i := 1) sc_write_step.nd rfl (by first | exact Or.inl rfl | exact Or.inr rfl) (pe_ix ix_tup (pv 0) pe_int (fun _ _ => rfl)))
      (pss_cons (ps_if (pt_cmpR op_eq (pv 1) pe_str (nomark _)) (pss_one (ps_ret (pe_op op_add_str pe_str (pe_c c_write_block hr (by omega) rfl (pa_cons (pe_ix ix_tup (pv 0) pe_int (fun _ _ => rfl)) pa_nil))))) pss_nil)
      (pss_cons (ps_if (pt_cmpR op_eq (pv 1) pe_str (nomark _)) (pss_one (ps_ret (pe_op op_add_str (pe_op op_add_str (pe_op op_add_str (pe_op op_add_str (pe_op op_add_str pe_str (pe_ix ix_tup (pv 0) pe_int (fun _ _ => rfl))) pe_str) (pe_c c_write_block hr (by omega) rfl (pa_cons (pe_ix ix_tup (pv 0) pe_int (fun _ _ => rfl)) pa_nil))) pe_str) (pe_c c_write_block hr (by omega) rfl (pa_cons (pe_ix ix_tup (pv 0) pe_int (fun _ _ => rfl)) pa_nil))))) pss_nil)
      (pss_cons (ps_if (pt_cmpR op_eq (pv 1) pe_str (nomark _)) (pss_one (ps_ret (pe_op op_add_str (pe_op op_add_str (pe_op op_add_str pe_str (pe_c c_write_block hr (by omega) rfl (pa_cons (pe_ix ix_tup (pv 0) pe_int (fun _ _ => rfl)) pa_nil))) pe_str) (pe_c c_write_block hr (by omega) rfl (pa_cons (pe_ix ix_tup (pv 0) pe_int (fun _ _ => rfl)) pa_nil))))) pss_nil)
      (pss_cons (ps_if (pt_cmpR op_eq (pv 1) pe_str (nomark _)) (pss_one (ps_ret (pe_op op_add_str pe_str (pe_bm PySem.F.plainAttrs_str PySem.F.slot_str_join PySem.F.type_str_join mt_join pe_str (pa_cons (pe_lc (own := [("block", 2)]) (g := gName 2) (tt := tYes) rfl sc_write_step.nd (pi_tup (pe_ix ix_tup (pv 0) pe_int (fun _ _ => rfl))) (blkOk_by (N := ["step", "word", "block"]) (sc := defScope s_write_step) (by decide +kernel)) (fun _ _ _ _ _ => (pg_name (i := 2) sc_write_step.nd rfl (by first | exact Or.inl rfl | exact Or.inr rfl))) (fun _ _ _ _ _ => pts_nil) (fun _ _ _ _ _ => (pe_c c_write_block hr (by omega) rfl (pa_cons (pv 2) pa_nil)))) pa_nil))))) pss_nil)
      (pss_one (ps_ret (pe_op op_add_str (pe_bm PySem.F.plainAttrs_str PySem.F.slot_str_join PySem.F.type_str_join mt_join pe_str (pa_cons (pv 0) pa_nil)) pe_str)))))))), ?_⟩
    have lk : ∀ x : Str, (kw x).length = x.length := fun x => Array.length_toList
    cases s with
    | word wd x =>
      cases D with
      | @tup p xs _ hT hA =>
        have e : xs = [.str (S wd), .str (S x)] := by
          cases hA with
          | cons h1 h2 => cases h2 with
            | cons h3 h4 => cases h4; cases h1; cases h3; rfl
        subst e
        obtain ⟨n0, n1, n2, n3, n4⟩ := with_ne hok.1
        refine ⟨_, rfl, p, _, 0, _, rfl, rfl, hT, atI_nat (j := 0) rfl, ?_⟩
        refine ⟨_, rfl, rfl, _, rfl, iteN (notW n1) ?_⟩
        refine ⟨_, rfl, rfl, _, rfl, iteN (notW n2) ?_⟩
        refine ⟨_, rfl, rfl, _, rfl, iteN (notW n3) ?_⟩
        refine ⟨_, rfl, rfl, _, rfl, iteN (notW n4) ?_⟩
        have hl' : wd.length + (x.length + 2) ≤ 100000 := by simpa [wrS] using hl
        have e1 : (" " : Str) = S [32] := by decide +kernel
        have e2 : (";" : Str) = S [59] := by decide +kernel
        have ej : Txt.join (" " : Str) [S wd, S x] = S (wd ++ 32 :: x) := by rw [e1, show [S wd, S x] = [wd, x].map S from rfl, SX.join_S]; rfl
        refine ⟨rfl, _, rfl, " ", p, [S wd, S x], rfl, rfl, .inr hT, ?_, _, _, rfl, rfl, ?_, ?_⟩
        · have l1 : (" " : Str).length = 1 := by decide +kernel
          simp only [List.map_cons, List.map_nil, List.sum_cons, List.sum_nil, List.length_cons, List.length_nil, l1, S_len]
          omega
        · rw [ej, e2, S_len, S_len]
          exact Nat.le_trans (by simp; omega : (wd ++ 32 :: x).length + [59].length ≤ 100000) (by decide)
        · rw [ej, e2, S_cat]
          have := k H (Same.refl H)
          rw [show wrS (.word wd x) = wd ++ 32 :: x ++ [59] by simp [wrS]] at this
          exact this
    | cls wd x =>
      cases D with
      | @tup p xs _ hT hA =>
        have e : xs = [.str (S wd), .str (S x)] := by
          cases hA with
          | cons h1 h2 => cases h2 with
            | cons h3 h4 => cases h4; cases h1; cases h3; rfl
        subst e
        obtain ⟨n0, n1, n2, n3, n4, n5⟩ := class_ne hok.1
        refine ⟨_, rfl, p, _, 0, _, rfl, rfl, hT, atI_nat (j := 0) rfl, ?_⟩
        refine ⟨_, rfl, rfl, _, rfl, iteN (notW n1) ?_⟩
        refine ⟨_, rfl, rfl, _, rfl, iteN (notW n2) ?_⟩
        refine ⟨_, rfl, rfl, _, rfl, iteN (notW n3) ?_⟩
        refine ⟨_, rfl, rfl, _, rfl, iteN (notW n4) ?_⟩
        have hl' : wd.length + (x.length + 2) ≤ 100000 := by simpa [wrS] using hl
        have e1 : (" " : Str) = S [32] := by decide +kernel
        have e2 : (";" : Str) = S [59] := by decide +kernel
        have ej : Txt.join (" " : Str) [S wd, S x] = S (wd ++ 32 :: x) := by rw [e1, show [S wd, S x] = [wd, x].map S from rfl, SX.join_S]; rfl
        refine ⟨rfl, _, rfl, " ", p, [S wd, S x], rfl, rfl, .inr hT, ?_, _, _, rfl, rfl, ?_, ?_⟩
        · have l1 : (" " : Str).length = 1 := by decide +kernel
          simp only [List.map_cons, List.map_nil, List.sum_cons, List.sum_nil, List.length_cons, List.length_nil, l1, S_len]
          omega
        · rw [ej, e2, S_len, S_len]
          exact Nat.le_trans (by simp; omega : (wd ++ 32 :: x).length + [59].length ≤ 100000) (by decide)
        · rw [ej, e2, S_cat]
          have := k H (Same.refl H)
          rw [show wrS (.cls wd x) = wd ++ 32 :: x ++ [59] by simp [wrS]] at this
          exact this
    | bare wd =>
      cases D with
      | @tup p xs _ hT hA =>
        have e : xs = [.str (S wd)] := by
          cases hA with
          | cons h1 h2 => cases h2; cases h1; rfl
        subst e
        obtain ⟨n0, n1, n2, n3, n4, n5⟩ := bare_ne hok
        refine ⟨_, rfl, p, _, 0, _, rfl, rfl, hT, atI_nat (j := 0) rfl, ?_⟩
        refine ⟨_, rfl, rfl, _, rfl, iteN (notW n1) ?_⟩
        refine ⟨_, rfl, rfl, _, rfl, iteN (notW n2) ?_⟩
        refine ⟨_, rfl, rfl, _, rfl, iteN (notW n3) ?_⟩
        refine ⟨_, rfl, rfl, _, rfl, iteN (notW n4) ?_⟩
        have hl' : wd.length + 1 ≤ 100000 := by simpa [wrS] using hl
        have e1 : (" " : Str) = S [32] := by decide +kernel
        have e2 : (";" : Str) = S [59] := by decide +kernel
        have ej : Txt.join (" " : Str) [S wd] = S wd := by rw [e1, show [S wd] = [wd].map S from rfl, SX.join_S]; rfl
        refine ⟨rfl, _, rfl, " ", p, [S wd], rfl, rfl, .inr hT, ?_, _, _, rfl, rfl, ?_, ?_⟩
        · have l1 : (" " : Str).length = 1 := by decide +kernel
          simp only [List.map_cons, List.map_nil, List.sum_cons, List.sum_nil, List.length_cons, List.length_nil, l1, S_len]
          omega
        · rw [ej, e2, S_len, S_len]
          exact Nat.le_trans (by simp; omega : wd.length + [59].length ≤ 100000) (by decide)
        · rw [ej, e2, S_cat]
          exact k H (Same.refl H)
    | loop b =>
      cases D with
      | @tup p xs _ hT hA =>
        cases hA with
        | @cons v0 _ _ _ h1 h2 => cases h2 with
          | @cons vb _ _ _ h3 h4 =>
            cases h4
            cases h1
            refine ⟨_, rfl, p, _, 0, _, rfl, rfl, hT, atI_nat (j := 0) rfl, ?_⟩
            refine ⟨_, rfl, rfl, _, rfl, iteY rfl ?_⟩
            have l1 : ("loop " : Str).length = 5 := by decide +kernel
            have hl' : 5 + (blkT (wrL b)).length ≤ 100000 := by
              have : (wrS (.loop b)).length = (kw "loop ").length + (blkT (wrL b)).length := by simp [wrS]
              rw [this, lk, l1] at hl
              exact hl
            refine ⟨_, rfl, p, _, 1, _, rfl, rfl, hT, atI_nat (j := 1) rfl, vb, b, rfl, h3, hok, by omega, fun H1 e1 => ⟨_, _, rfl, rfl, by rw [l1, S_len]; exact sz hl', ?_⟩⟩
            have := k H1 e1
            rw [wrS, ← S_cat, S_kw] at this
            exact this
    | iff x a b =>
      obtain ⟨o1, o2, o3⟩ := hok
      cases D with
      | @tup p xs _ hT hA =>
        cases hA with
        | cons h1 h2 => cases h2 with
          | cons h3 h4 => cases h4 with
            | @cons va _ _ _ h5 h6 => cases h6 with
              | @cons vb _ _ _ h7 h8 =>
                cases h8
                cases h1
                cases h3
                refine ⟨_, rfl, p, _, 0, _, rfl, rfl, hT, atI_nat (j := 0) rfl, ?_⟩
                refine ⟨_, rfl, rfl, _, rfl, iteN (ne_str (by decide +kernel)) ?_⟩
                refine ⟨_, rfl, rfl, _, rfl, iteY rfl ?_⟩
                have l1 : ("if " : Str).length = 3 := by decide +kernel
                have l2 : (" else " : Str).length = 6 := by decide +kernel
                have l3 : (" " : Str).length = 1 := by decide +kernel
                have hl' : 3 + x.length + 1 + (blkT (wrL a)).length + 6 + (blkT (wrL b)).length ≤ 100000 := by
                  have : (wrS (.iff x a b)).length = (kw "if ").length + x.length + 1 + (blkT (wrL a)).length + (kw " else ").length + (blkT (wrL b)).length := by simp [wrS]; omega
                  rw [this, lk, lk, l1, l2] at hl
                  exact hl
                refine ⟨_, rfl, p, _, 1, _, rfl, rfl, hT, atI_nat (j := 1) rfl, _, _, rfl, rfl, by rw [l1, S_len]; exact sz (by omega), ?_⟩
                refine ⟨_, _, rfl, rfl, by rw [Str.length_append, l1, l3, S_len]; exact sz (by omega), ?_⟩
                refine ⟨_, rfl, p, _, 2, _, rfl, rfl, hT, atI_nat (j := 2) rfl, va, a, rfl, h5, o2, by omega, fun H1 e1 => ?_⟩
                have hT1 : SqT K H1 p _ := hT.elim (fun z => .inl ((TStay.of e1).rd z)) .inr
                refine ⟨_, _, rfl, rfl, by rw [Str.length_append, Str.length_append, l1, l3, S_len, S_len]; exact sz (by omega), ?_⟩
                refine ⟨_, _, rfl, rfl, by rw [Str.length_append, Str.length_append, Str.length_append, l1, l2, l3, S_len, S_len]; exact sz (by omega), ?_⟩
                refine ⟨_, rfl, p, _, 3, _, rfl, rfl, hT1, atI_nat (j := 3) rfl, vb, b, rfl, dt_stay (TStay.of e1) _ _ h7, o3, by omega, fun H2 e2 => ?_⟩
                refine ⟨_, _, rfl, rfl, by rw [Str.length_append, Str.length_append, Str.length_append, Str.length_append, l1, l2, l3, S_len, S_len, S_len]; exact sz (by omega), ?_⟩
                have := k H2 (e1.trans e2)
                rw [wrS, ← S_cat, ← S_cat, ← S_cat, ← S_cat, ← S_cat, S_kw, S_kw, show S [32] = (" " : Str) by decide +kernel] at this
                exact this
    | tr a b =>
      obtain ⟨o2, o3⟩ := hok
      cases D with
      | @tup p xs _ hT hA =>
        cases hA with
        | cons h1 h2 => cases h2 with
          | @cons va _ _ _ h5 h6 => cases h6 with
            | @cons vb _ _ _ h7 h8 =>
              cases h8
              cases h1
              refine ⟨_, rfl, p, _, 0, _, rfl, rfl, hT, atI_nat (j := 0) rfl, ?_⟩
              refine ⟨_, rfl, rfl, _, rfl, iteN (ne_str (by decide +kernel)) ?_⟩
              refine ⟨_, rfl, rfl, _, rfl, iteN (ne_str (by decide +kernel)) ?_⟩
              refine ⟨_, rfl, rfl, _, rfl, iteY rfl ?_⟩
              have l1 : ("try " : Str).length = 4 := by decide +kernel
              have l2 : (" catch " : Str).length = 7 := by decide +kernel
              have hl' : 4 + (blkT (wrL a)).length + 7 + (blkT (wrL b)).length ≤ 100000 := by
                have : (wrS (.tr a b)).length = (kw "try ").length + (blkT (wrL a)).length + (kw " catch ").length + (blkT (wrL b)).length := by simp [wrS]; omega
                rw [this, lk, lk, l1, l2] at hl
                exact hl
              refine ⟨_, rfl, p, _, 1, _, rfl, rfl, hT, atI_nat (j := 1) rfl, va, a, rfl, h5, o2, by omega, fun H1 e1 => ?_⟩
              have hT1 : SqT K H1 p _ := hT.elim (fun z => .inl ((TStay.of e1).rd z)) .inr
              refine ⟨_, _, rfl, rfl, by rw [l1, S_len]; exact sz (by omega), ?_⟩
              refine ⟨_, _, rfl, rfl, by rw [Str.length_append, l1, l2, S_len]; exact sz (by omega), ?_⟩
              refine ⟨_, rfl, p, _, 2, _, rfl, rfl, hT1, atI_nat (j := 2) rfl, vb, b, rfl, dt_stay (TStay.of e1) _ _ h7, o3, by omega, fun H2 e2 => ?_⟩
              refine ⟨_, _, rfl, rfl, by rw [Str.length_append, Str.length_append, l1, l2, S_len, S_len]; exact sz (by omega), ?_⟩
              have := k H2 (e1.trans e2)
              rw [wrS, ← S_cat, ← S_cat, ← S_cat, S_kw, S_kw] at this
              exact this
    | ei bs =>
      obtain ⟨o1, o2⟩ := hok
      cases D with
      | @tup p xs _ hT hA =>
        cases hA with
        | cons h1 h2 => cases h2 with
          | @cons vb _ _ _ h5 h6 =>
            cases h6
            cases h1
            cases h5 with
            | @tup q ys _ hU hB =>
              have ly := dtAll_len hB
              refine ⟨_, rfl, p, _, 0, _, rfl, rfl, hT, atI_nat (j := 0) rfl, ?_⟩
              refine ⟨_, rfl, rfl, _, rfl, iteN (ne_str (by decide +kernel)) ?_⟩
              refine ⟨_, rfl, rfl, _, rfl, iteN (ne_str (by decide +kernel)) ?_⟩
              refine ⟨_, rfl, rfl, _, rfl, iteN (ne_str (by decide +kernel)) ?_⟩
              refine ⟨_, rfl, rfl, _, rfl, iteY rfl ?_⟩
              have l1 : ("either " : Str).length = 7 := by decide +kernel
              have l2 : (" or " : Str).length = 4 := by decide +kernel
              have hl' : 7 + (TL.joinL (kw " or ") (wrK bs)).length ≤ 100000 := by
                have : (wrS (.ei bs)).length = (kw "either ").length + (TL.joinL (kw " or ") (wrK bs)).length := by simp [wrS]
                rw [this, lk, l1] at hl
                exact hl
              have tot := join_tot (s := kw " or ") (wrK bs)
              rw [lk, l2] at tot
              refine ⟨rfl, _, rfl, p, _, 1, _, rfl, rfl, hT, atI_nat (j := 1) rfl, q, rfl, ⟨_, hU⟩, fun D hD => ?_⟩
              have hUs : ∀ {H' : Hp}, Same H H' → SqT K H' q ys := fun e => hU.elim (fun z => .inl ((TStay.of e).rd z)) .inr
              refine lc_tup (xs := ys) (fun i H1 => Same H H1 ∧ H1 D = some (.lst (txV ((wrK bs).take i)))) ⟨Same.new hD, upd_same⟩ (fun i H1 _ h => hUs h.1) ?_ ?_
              · rintro i x H1 hx ⟨S1, hD1⟩
                obtain ⟨d, hd, Dx⟩ := dtAll_get hB hx
                obtain ⟨b, hs, rfl⟩ := datL_get hd
                have hw := wrK_get hs
                have hm := join_mem (s := kw " or ") (List.mem_of_getElem? hw)
                refine ⟨rfl, ?_⟩
                refine iteT (B := Same H H1 ∧ H1 D = some (.lst (txV ((wrK bs).take (i + 1))))) ?_
                refine ⟨_, rfl, x, b, rfl, dt_stay (TStay.of S1) _ _ Dx, o2 b (List.mem_of_getElem? hs), by omega, fun H2 e2 => ⟨_, e2 _ _ hD1, ?_, ?_, ?_⟩⟩
                · refine Nat.lt_of_le_of_lt ?_ (by decide : 100004 < sizeLine)
                  simp only [txV, List.length_map]
                  have h3 := List.length_take_le' i (wrK bs)
                  omega
                · intro a o e
                  rw [upd_ne (ne_of_none e hD)]
                  exact e2 _ _ (S1 _ _ e)
                · rw [upd_same, List.take_add_one, hw]
                  simp [txV]
              · rintro H1 ⟨S1, hD1⟩
                have e0 : (wrK bs).take ys.length = wrK bs := List.take_of_length_le (by rw [wrK_len, ly, datL_len]; exact Nat.le_refl _)
                rw [e0] at hD1
                refine ⟨" or ", D, (wrK bs).map S, rfl, rfl, .inl (SqL.of hD1), ?_, ?_⟩
                · rw [SX.lens, List.length_map, l2]
                  omega
                · have ej : Txt.join (" or " : Str) ((wrK bs).map S) = S (TL.joinL (kw " or ") (wrK bs)) := by
                    rw [← SX.join_S, S_kw]
                  rw [ej]
                  refine ⟨_, _, rfl, rfl, by rw [l1, S_len]; exact sz hl', ?_⟩
                  have := k H1 S1
                  rw [wrS, ← S_cat, S_kw] at this
                  exact this
theorem writes (T : Txt K mg Z) : ∀ n, Cal P w K mg base (3 * n + 1) "write_block" (spWK K (okK n)) [] ∧ Cal P w K mg base (3 * n + 3) "write_steps" (spWB K (okK n)) []
  | 0 => by
    have c := c_write_block0 (P := P) (w := w) (base := base) T
    exact ⟨c, c_write_steps T (c_write_step T c)⟩
  | n + 1 => by
    obtain ⟨_, ih⟩ := writes T n
    have c := c_write_blockS T ih
    exact ⟨c, c_write_steps T (c_write_step T c)⟩
end

/-! ### 7. the law's words -/
def oneL (L : List Nat) : List (List Nat) := L.map fun c => [c]
theorem txV_len (l : List (List Nat)) : (txV l).length = l.length := by simp [txV]
theorem map_erase {α β : Type} (f : α → β) : ∀ (l : List α) (k : Nat), (l.map f).eraseIdx k = (l.eraseIdx k).map f
  | [], _ => rfl
  | _ :: _, 0 => rfl
  | a :: l, k + 1 => by
    show f a :: (l.map f).eraseIdx k = f a :: (l.eraseIdx k).map f
    rw [map_erase f l k]
theorem txV_erase (l : List (List Nat)) (k : Nat) : (txV l).eraseIdx k = txV (l.eraseIdx k) := by
  simp [txV, map_erase]
theorem oneL_erase (l : List Nat) (k : Nat) : (oneL l).eraseIdx k = oneL (l.eraseIdx k) := map_erase _ _ _
theorem txV_snoc (l : List (List Nat)) (a : List Nat) : txV l ++ [V.str (S a)] = txV (l ++ [a]) := by simp [txV]
theorem seqIx {d : Int} {n : Nat} (h0 : 0 ≤ d) (h1 : d < (n : Int)) : seqIndex? d n = some d.toNat := by
  unfold seqIndex?
  simp only [show ¬ d < 0 by omega, if_false]
  simp [h0, h1]
def stemC (c : Nat) : Bool := c == 97 || c == 113 || c == 122 || c == 109
def stemT (c : Nat) : Bool := c == 97 || c == 101 || c == 115 || c == 116 || c == 120
def okStem (p : Nat → Bool) (n : Nat) : V → Bool
  | .str x => decide (x.length ≤ n) && x.cps.toList.all p
  | _ => false
theorem okStem_spec {p : Nat → Bool} {n : Nat} {v : V} (h : okStem p n v = true) : ∃ a, v = .str (S a) ∧ a.length ≤ n ∧ a.all p = true := by
  cases v with
  | str x =>
    simp only [okStem, Bool.and_eq_true, decide_eq_true_eq] at h
    exact ⟨x.cps.toList, by rw [S_tl], by rw [Array.length_toList]; exact h.1, h.2⟩
  | _ => cases h
def outN (a : List Nat) : Nat := (a.filter fun c => !stemC c).length
theorem outN_app (a b : List Nat) : outN (a ++ b) = outN a + outN b := by simp [outN, List.filter_append]
theorem outN_stem {a : List Nat} (h : a.all stemC = true) : outN a = 0 := by
  unfold outN
  rw [List.filter_eq_nil_iff.mpr]
  · rfl
  · intro c hc
    simp [List.all_eq_true.mp h c hc]
theorem outN_one (c : Nat) : outN [c] ≤ 1 := by
  unfold outN
  exact List.length_filter_le _ _
theorem stem_small {a : List Nat} (h : a.all stemC = true) : smallL a = true := by
  unfold smallL
  rw [List.all_eq_true] at h ⊢
  intro c hc
  have := h c hc
  simp only [stemC, Bool.or_eq_true, beq_iff_eq] at this
  rcases this with ((rfl | rfl) | rfl) | rfl <;> decide +kernel
theorem stemT_small {a : List Nat} (h : a.all stemT = true) : smallL a = true := by
  unfold smallL
  rw [List.all_eq_true] at h ⊢
  intro c hc
  have := h c hc
  simp only [stemT, Bool.or_eq_true, beq_iff_eq] at this
  rcases this with (((rfl | rfl) | rfl) | rfl) | rfl <;> decide +kernel
theorem res_out : resV.all (fun v => match v with | .str x => decide (2 ≤ outN x.cps.toList) | _ => true) = true := by decide +kernel
theorem notRes {a : List Nat} (h : outN a ≤ 1) : inV (.str (S a)) resV = false := by
  cases e : inV (.str (S a)) resV with
  | false => rfl
  | true =>
    exfalso
    obtain ⟨v, hv, hq⟩ := List.any_eq_true.mp (show resV.any (fun v => eqV v (.str (S a))) = true from by
      unfold inV at e
      exact e)
    cases v with
    | str x =>
      simp only [eqV, beq_iff_eq] at hq
      have := List.all_eq_true.mp res_out _ hv
      simp only [decide_eq_true_eq] at this
      have e2 : x.cps.toList = a := by rw [hq]
      rw [e2] at this
      omega
    | _ => cases hq
theorem word_of {a : List Nat} (h1 : 1 ≤ a.length) (h2 : a.length ≤ 8) (h3 : smallL a = true) (h4 : outN a ≤ 1) : wordL a = true := by
  simp only [wordL, Bool.and_eq_true, decide_eq_true_eq, h3, notRes h4, Bool.not_false, and_true]
  omega
theorem smallL_app {a b : List Nat} (ha : smallL a = true) (hb : smallL b = true) : smallL (a ++ b) = true := by
  unfold smallL at *
  rw [List.all_append, ha, hb]
  rfl
section
variable {P : Program} {w : World} {K : PySem.W.Frag} {mg : Str → Option Value} {base : Heap} {Z : Addrs}
def okWs (g : List Nat → Bool) (ws : List (List Nat)) : Prop := ∀ x ∈ ws, g x = true
theorem lt9000 {m : Int} (h0 : 0 < m) (h : m ≤ 100000) : m.natAbs < 2 ^ 9000 := Nat.lt_of_le_of_lt (by omega : m.natAbs ≤ 100000) (by decide +kernel)
theorem lt9000' {m : Int} (h0 : 0 ≤ m) (h : m ≤ 100000) : m.natAbs < 2 ^ 9000 := Nat.lt_of_le_of_lt (by omega : m.natAbs ≤ 100000) (by decide +kernel)
theorem Upto.upd {b : Addr} {H H1 : Hp} {p : Addr} {o : HO} (u : Upto b H H1) (h : H p = none) : Upto b H (upd H1 p o) := fun c q hc e => by
  rw [upd_ne (ne_of_none e h)]
  exact u c q hc e
theorem BagAt.upd {H : Hp} {b p : Addr} {o : HO} (h : BagAt H b) (n : p ≠ b) : BagAt (upd H p o) b := by
  obtain ⟨x, y, hx, e⟩ := h
  exact ⟨x, y, hx, by rw [upd_ne (Ne.symm n)]; exact e⟩
theorem bagNe {H : Hp} {b p : Addr} (B : BagAt H b) (hp : H p = none) : p ≠ b := fun e => by
  subst e
  obtain ⟨_, _, _, e⟩ := B
  rw [e] at hp
  cases hp
def spWords (g : List Nat → Bool) : Sp := fun vs H Q _ => ∃ (b : Addr) (m : Nat), vs = [.ref b, .int (m : Nat)] ∧ BagAt H b ∧ m ≤ 12 ∧
  ∀ (ws : List (List Nat)) (p : Addr) H', okWs g ws → ws.length = m → p ≠ b → H p = none → H' p = some (.lst (txV ws)) → Upto b H H' → BagAt H' b → Q (.ref p) H'
theorem c__law_words (T : Txt K mg Z) : Cal P w K mg base 3 "_law_words" (spWords wordL) [] := by
  have c__law_draw : Cal P w K mg base 1 "_law_draw" spDraw [] := c__law_draw T
  have c__law_one : Cal P w K mg base 2 "_law_one" (spOne K) [] := c__law_one T
  refine cal_of T.d__law_words sc__law_words (fun vs H Q E h => ?_) (fun f cdv A outer s H vs Q E hr h => ?_)
  · obtain ⟨b, m, rfl, _⟩ := h
    rfl
  · obtain ⟨b, m, rfl, B, hm, k⟩ := h
    refine ⟨_, (pss_cons (ps_par3 (i := 2) (j := 3) (l := 4) (by rfl) sc__law_words.nd rfl rfl rfl (by decide) (by decide) (by decide) rfl rfl rfl (pa_cons (pe_callTy (call_listS rfl) (by rfl) T.b_list (by decide +kernel) (pa_cons pe_str pa_nil)) (pa_cons pe_str (pa_cons (pe_lst pa_nil) pa_nil))) (by rfl))
      (pss_cons (ps_for PassesOwn.never rfl (pi_range1 rfl T.b_range (pa_cons (pe_c c__law_draw hr (by omega) rfl (pa_cons (pv 0) (pa_cons pe_int pa_nil))) pa_nil)) (pg_name (i := 5) sc__law_words.nd rfl (by first | exact Or.inl rfl | exact Or.inr rfl)) (pss_one (ps_set (i := 3) sc__law_words.nd rfl (by first | exact Or.inl rfl | exact Or.inr rfl) (pe_op op_add_str (pv 3) (pe_c c__law_one hr (by omega) rfl (pa_cons (pv 0) (pa_cons (pe_lst (pa_cons pe_str (pa_cons pe_str (pa_cons pe_str (pa_cons pe_str pa_nil))))) pa_nil)))))))
      (pss_cons (ps_set (i := 6) sc__law_words.nd rfl (by first | exact Or.inl rfl | exact Or.inr rfl) (pe_cmpR op_eq (pe_c c__law_draw hr (by omega) rfl (pa_cons (pv 0) (pa_cons pe_int pa_nil))) pe_int (nomark _)))
      (pss_cons (ps_for PassesOwn.never rfl (pi_range1 rfl T.b_range (pa_cons (pv 1) pa_nil)) (pg_name (i := 5) sc__law_words.nd rfl (by first | exact Or.inl rfl | exact Or.inr rfl)) (pss_cons (ps_set (i := 7) sc__law_words.nd rfl (by first | exact Or.inl rfl | exact Or.inr rfl) (pe_bm PySem.F.plainAttrs_list PySem.F.slot_list_pop PySem.F.type_list_pop mt_popAt (pv 2) (pa_cons (pe_c c__law_draw hr (by omega) rfl (pa_cons (pv 0) (pa_cons (pe_callB call_len_seq (by rfl) T.b_len (by decide +kernel) (pa_cons (pv 2) pa_nil)) pa_nil))) pa_nil)))
      (pss_one (ps_expr (pe_bm PySem.F.plainAttrs_list PySem.F.slot_list_append PySem.F.type_list_append mt_append (pv 4) (pa_cons (pe_ifExp (pt_val (pv 6)) (pe_op op_add_str (pv 7) (pv 3)) (pe_op op_add_str (pv 3) (pv 7))) pa_nil))))))
      (pss_one (ps_ret (pv 4))))))), ?_⟩
    refine ⟨_, rfl, by decide, fun l nl => ⟨by decide, fun g ng => ⟨_, _, _, rfl, ?_⟩⟩⟩
    have hlg : l ≠ g := ne_of_none upd_same ng
    have ng0 : H g = none := (Same.new nl).free ng
    have e0 : (("abcdefghijklmnopqrstuvwxyz" : Str).cps.toList.map fun c => V.str ⟨#[c]⟩) = txV (oneL ("abcdefghijklmnopqrstuvwxyz" : Str).cps.toList) := by
      simp only [txV, oneL, List.map_map]
      rfl
    rw [e0]
    have B2 : BagAt (upd (upd H l (.lst (txV (oneL ("abcdefghijklmnopqrstuvwxyz" : Str).cps.toList)))) g (.lst [])) b := (B.upd (bagNe B nl)).upd (bagNe B ng0)
    refine ⟨_, rfl, b, 8, rfl, B2, by decide, lt9000 (by decide) (by decide), fun d H1 d0 d1 u1 B1 => ⟨_, rfl, by omega, by omega, ?_⟩⟩
    have hl0 : H1 l = some (.lst (txV (oneL ("abcdefghijklmnopqrstuvwxyz" : Str).cps.toList))) := u1 _ _ (bagNe B nl) (by rw [upd_ne hlg]; exact upd_same)
    have hg0 : H1 g = some (.lst []) := u1 _ _ (bagNe B ng0) upd_same
    have U1 : Upto b H H1 := ((Upto.new nl).trans (Upto.new ng)).trans u1
    refine for_it walk_range (fun i σ H2 => ∃ (a : List Nat) (v5 v6 v7 : Option V), σ = [some (.ref b), some (.int m), some (.ref l), some (.str (S a)), some (.ref g), v5, v6, v7] ∧ a.length ≤ i ∧ a.all stemC = true ∧ Upto b H H2 ∧ BagAt H2 b ∧
      H2 l = some (.lst (txV (oneL ("abcdefghijklmnopqrstuvwxyz" : Str).cps.toList))) ∧ H2 g = some (.lst [])) ⟨[], none, none, none, rfl, Nat.le_refl _, rfl, U1, B1, hl0, hg0⟩ (fun _ _ _ _ _ => trivial) ?_ ?_
    · rintro i x σ H2 H3 hi ⟨a, v5, v6, v7, rfl, ha, hA, u2, B2, hl2, hg2⟩ ⟨rfl, rfl⟩
      refine ⟨_, rfl, _, rfl, by decide, fun q nq => ⟨b, q, _, rfl, B2.upd (bagNe B2 nq), bagNe B2 nq, upd_same, by decide, by decide, fun v H4 hv u4 B4 => ?_⟩⟩
      obtain ⟨c, rfl, hc, hC⟩ := okStem_spec (p := stemC) (n := 1) (List.all_eq_true.mp (show List.all _ (okStem stemC 1) = true by decide +kernel) v hv)
      refine ⟨_, _, rfl, rfl, by rw [S_len, S_len]; exact sz (by have := ha; omega), ?_⟩
      rw [S_cat]
      exact ⟨a ++ c, _, _, _, rfl, by simp; omega, by rw [List.all_append, hA, hC]; rfl, u2.trans ((Upto.new nq).trans u4), B4, u4 _ _ (bagNe B nl) ((Same.new nq) _ _ hl2), u4 _ _ (bagNe B ng0) ((Same.new nq) _ _ hg2)⟩
    · rintro σ H2 ⟨a, v5, v6, v7, rfl, ha, hA, u2, B2, hl2, hg2⟩
      have ha : a.length ≤ 7 := by omega
      refine ⟨_, rfl, b, 2, rfl, B2, by decide, lt9000 (by decide) (by decide), fun e H3 e0 e1 u3 B3 => ⟨rfl, _, rfl, _, rfl, by omega, by omega, ?_⟩⟩
      have S3 := u2.trans u3
      refine for_it walk_range (fun i σ H4 => ∃ (L : List Nat) (ws : List (List Nat)) (v5 v7 : Option V) (fl : Bool), σ = [some (.ref b), some (.int m), some (.ref l), some (.str (S a)), some (.ref g), v5, some (.bl fl), v7] ∧ L.length = 26 - i ∧ L.all smallC = true ∧
        okWs wordL ws ∧ ws.length = i ∧ Upto b H H4 ∧ BagAt H4 b ∧ H4 l = some (.lst (txV (oneL L))) ∧ H4 g = some (.lst (txV ws)))
        ⟨_, [], _, _, _, rfl, by decide +kernel, by decide +kernel, fun _ h => absurd h (List.not_mem_nil), rfl, S3, B3, u3 _ _ (bagNe B nl) hl2, u3 _ _ (bagNe B ng0) hg2⟩ (fun _ _ _ _ _ => trivial) ?_ ?_
      · rintro i x σ H4 H5 hi ⟨L, ws, v5, v7, fl, rfl, hL, hLs, hw, hwl, u4, B4, hl4, hg4⟩ ⟨rfl, rfl⟩
        have hlen : (txV (oneL L)).length = 26 - i := by rw [txV_len]; simp [oneL, hL]
        refine ⟨_, rfl, .inl ⟨rfl, _, SqL.of hl4⟩, _, rfl, _, rfl, l, _, rfl, .inl (SqL.of hl4), b, _, rfl, B4, by omega, lt9000 (by omega) (by omega), fun x H6 x0 x1 u6 B6 => ?_⟩
        have hl6 := u6 _ _ (bagNe B nl) hl4
        have hg6 := u6 _ _ (bagNe B ng0) hg4
        rw [hlen] at x1
        have hx : x.toNat < L.length := by omega
        refine ⟨l, _, x, x.toNat, .str (S [L[x.toNat]]), rfl, rfl, hl6, by omega, by omega, seqIx x0 (by rw [hlen]; exact x1), by simp [txV, oneL, hx], ?_⟩
        rw [txV_erase, oneL_erase]
        have hs : smallC L[x.toNat] = true := List.all_eq_true.mp hLs _ (List.getElem_mem hx)
        have B7 : BagAt (upd H6 l (.lst (txV (oneL (L.eraseIdx x.toNat))))) b := B6.upd (bagNe B nl)
        have U7 : Upto b H (upd H6 l (.lst (txV (oneL (L.eraseIdx x.toNat))))) := (u4.trans u6).upd nl
        have hg7 : (upd H6 l (.lst (txV (oneL (L.eraseIdx x.toNat))))) g = some (.lst (txV ws)) := by rw [upd_ne (Ne.symm hlg)]; exact hg6
        refine ⟨_, rfl, .inl ⟨rfl, _, SqL.of hg7⟩, _, rfl, ?_⟩
        have fin : ∀ wd : List Nat, wordL wd = true → ∃ (L' : List Nat) (ws' : List (List Nat)) (v5 v7 : Option V) (fl' : Bool), [some (.ref b), some (.int m), some (.ref l), some (.str (S a)), some (.ref g), some (V.int (0 + (i : Int))), some (.bl fl), some (.str (S [L[x.toNat]]))] = [some (.ref b), some (.int (m : Int)), some (.ref l), some (.str (S a)), some (.ref g), v5, some (.bl fl'), v7] ∧ L'.length = 26 - (i + 1) ∧ L'.all smallC = true ∧
            okWs wordL ws' ∧ ws'.length = i + 1 ∧ Upto b H (upd (upd H6 l (.lst (txV (oneL (L.eraseIdx x.toNat))))) g (.lst (txV ws ++ [.str (S wd)]))) ∧ BagAt (upd (upd H6 l (.lst (txV (oneL (L.eraseIdx x.toNat))))) g (.lst (txV ws ++ [.str (S wd)]))) b ∧
            (upd (upd H6 l (.lst (txV (oneL (L.eraseIdx x.toNat))))) g (.lst (txV ws ++ [.str (S wd)]))) l = some (.lst (txV (oneL L'))) ∧ (upd (upd H6 l (.lst (txV (oneL (L.eraseIdx x.toNat))))) g (.lst (txV ws ++ [.str (S wd)]))) g = some (.lst (txV ws')) := fun wd hwd =>
          ⟨L.eraseIdx x.toNat, ws ++ [wd], _, _, _, rfl, by rw [List.length_eraseIdx_of_lt hx]; omega, List.all_eq_true.mpr fun c hc => List.all_eq_true.mp hLs c (List.mem_of_mem_eraseIdx hc),
            fun y hy => (List.mem_append.mp hy).elim (hw y) (fun h => by cases List.mem_singleton.mp h; exact hwd), by simp [hwl], U7.upd ng0, B7.upd (bagNe B ng0), by rw [upd_ne hlg]; exact upd_same, by rw [upd_same, txV_snoc]⟩
        have s1 : smallL [L[x.toNat]] = true := by simp [smallL, hs]
        refine ⟨_, rfl, ?_⟩
        have o1 := outN_one L[x.toNat]
        have o2 := outN_stem hA
        have sa := stem_small hA
        refine ite2 (fun h1 => ?_) (fun h1 => ?_)
        · refine ⟨_, rfl, _, rfl, _, _, rfl, rfl, by rw [S_len, S_len]; exact sz (by simp; omega), ?_⟩
          rw [S_cat]
          refine ⟨g, _, _, rfl, rfl, hg7, by rw [txV_len]; exact Nat.lt_of_le_of_lt (by omega : ws.length ≤ 100) (by decide), ?_⟩
          exact fin _ (word_of (by simp) (by simp; omega) (smallL_app s1 sa) (by rw [outN_app]; omega))
        · refine ⟨_, rfl, _, rfl, _, _, rfl, rfl, by rw [S_len, S_len]; exact sz (by simp; omega), ?_⟩
          rw [S_cat]
          refine ⟨g, _, _, rfl, rfl, hg7, by rw [txV_len]; exact Nat.lt_of_le_of_lt (by omega : ws.length ≤ 100) (by decide), ?_⟩
          exact fin _ (word_of (by simp) (by simp; omega) (smallL_app sa s1) (by rw [outN_app]; omega))
      · rintro σ H4 ⟨L, ws, v5, v7, fl, rfl, hL, hLs, hw, hwl, u4, B4, hl4, hg4⟩
        exact ⟨_, rfl, k ws g H4 hw (by omega) (bagNe B ng0) ng0 hg4 u4 B4⟩
theorem class_of {c : Nat} {a : List Nat} (h1 : a.length ≤ 7) (h2 : capC c = true) (h3 : smallL a = true) : classL ([c] ++ a) = true := by
  simp only [classL, Bool.and_eq_true, decide_eq_true_eq]
  refine ⟨by simp; omega, by simp; omega, h2, h3⟩
theorem c__law_labels (T : Txt K mg Z) : Cal P w K mg base 3 "_law_labels" (spWords classL) [] := by
  have c__law_draw : Cal P w K mg base 1 "_law_draw" spDraw [] := c__law_draw T
  have c__law_one : Cal P w K mg base 2 "_law_one" (spOne K) [] := c__law_one T
  refine cal_of T.d__law_labels sc__law_labels (fun vs H Q E h => ?_) (fun f cdv A outer s H vs Q E hr h => ?_)
  · obtain ⟨b, m, rfl, _⟩ := h
    rfl
  · obtain ⟨b, m, rfl, B, hm, k⟩ := h
    refine ⟨_, (pss_cons (ps_par3 (i := 2) (j := 3) (l := 4) (by rfl) sc__law_labels.nd rfl rfl rfl (by decide) (by decide) (by decide) rfl rfl rfl (pa_cons (pe_callTy (call_listS rfl) (by rfl) T.b_list (by decide +kernel) (pa_cons pe_str pa_nil)) (pa_cons pe_str (pa_cons (pe_lst pa_nil) pa_nil))) (by rfl))
      (pss_cons (ps_for PassesOwn.never rfl (pi_range1 rfl T.b_range (pa_cons (pe_c c__law_draw hr (by omega) rfl (pa_cons (pv 0) (pa_cons pe_int pa_nil))) pa_nil)) (pg_name (i := 5) sc__law_labels.nd rfl (by first | exact Or.inl rfl | exact Or.inr rfl)) (pss_one (ps_set (i := 3) sc__law_labels.nd rfl (by first | exact Or.inl rfl | exact Or.inr rfl) (pe_op op_add_str (pv 3) (pe_c c__law_one hr (by omega) rfl (pa_cons (pv 0) (pa_cons (pe_lst (pa_cons pe_str (pa_cons pe_str (pa_cons pe_str (pa_cons pe_str (pa_cons pe_str pa_nil)))))) pa_nil)))))))
      (pss_cons (ps_for PassesOwn.never rfl (pi_range1 rfl T.b_range (pa_cons (pv 1) pa_nil)) (pg_name (i := 5) sc__law_labels.nd rfl (by first | exact Or.inl rfl | exact Or.inr rfl)) (pss_one (ps_expr (pe_bm PySem.F.plainAttrs_list PySem.F.slot_list_append PySem.F.type_list_append mt_append (pv 4) (pa_cons (pe_op op_add_str (pe_bm PySem.F.plainAttrs_list PySem.F.slot_list_pop PySem.F.type_list_pop mt_popAt (pv 2) (pa_cons (pe_c c__law_draw hr (by omega) rfl (pa_cons (pv 0) (pa_cons (pe_callB call_len_seq (by rfl) T.b_len (by decide +kernel) (pa_cons (pv 2) pa_nil)) pa_nil))) pa_nil)) (pv 3)) pa_nil)))))
      (pss_one (ps_ret (pv 4)))))), ?_⟩
    refine ⟨_, rfl, by decide, fun l nl => ⟨by decide, fun g ng => ⟨_, _, _, rfl, ?_⟩⟩⟩
    have hlg : l ≠ g := ne_of_none upd_same ng
    have ng0 : H g = none := (Same.new nl).free ng
    have e0 : (("ABCDEFGHIJKLMNOPQRSTUVWXYZ" : Str).cps.toList.map fun c => V.str ⟨#[c]⟩) = txV (oneL ("ABCDEFGHIJKLMNOPQRSTUVWXYZ" : Str).cps.toList) := by
      simp only [txV, oneL, List.map_map]
      rfl
    rw [e0]
    have B2 : BagAt (upd (upd H l (.lst (txV (oneL ("ABCDEFGHIJKLMNOPQRSTUVWXYZ" : Str).cps.toList)))) g (.lst [])) b := (B.upd (bagNe B nl)).upd (bagNe B ng0)
    refine ⟨_, rfl, b, 8, rfl, B2, by decide, lt9000 (by decide) (by decide), fun d H1 d0 d1 u1 B1 => ⟨_, rfl, by omega, by omega, ?_⟩⟩
    have hl0 : H1 l = some (.lst (txV (oneL ("ABCDEFGHIJKLMNOPQRSTUVWXYZ" : Str).cps.toList))) := u1 _ _ (bagNe B nl) (by rw [upd_ne hlg]; exact upd_same)
    have hg0 : H1 g = some (.lst []) := u1 _ _ (bagNe B ng0) upd_same
    have U1 : Upto b H H1 := ((Upto.new nl).trans (Upto.new ng)).trans u1
    refine for_it walk_range (fun i σ H2 => ∃ (a : List Nat) (v5 : Option V), σ = [some (.ref b), some (.int m), some (.ref l), some (.str (S a)), some (.ref g), v5] ∧ a.length ≤ i ∧ a.all stemT = true ∧ Upto b H H2 ∧ BagAt H2 b ∧
      H2 l = some (.lst (txV (oneL ("ABCDEFGHIJKLMNOPQRSTUVWXYZ" : Str).cps.toList))) ∧ H2 g = some (.lst [])) ⟨[], none, rfl, Nat.le_refl _, rfl, U1, B1, hl0, hg0⟩ (fun _ _ _ _ _ => trivial) ?_ ?_
    · rintro i x σ H2 H3 hi ⟨a, v5, rfl, ha, hA, u2, B2, hl2, hg2⟩ ⟨rfl, rfl⟩
      refine ⟨_, rfl, _, rfl, by decide, fun q nq => ⟨b, q, _, rfl, B2.upd (bagNe B2 nq), bagNe B2 nq, upd_same, by decide, by decide, fun v H4 hv u4 B4 => ?_⟩⟩
      obtain ⟨c, rfl, hc, hC⟩ := okStem_spec (p := stemT) (n := 1) (List.all_eq_true.mp (show List.all _ (okStem stemT 1) = true by decide +kernel) v hv)
      refine ⟨_, _, rfl, rfl, by rw [S_len, S_len]; exact sz (by have := ha; omega), ?_⟩
      rw [S_cat]
      exact ⟨a ++ c, _, rfl, by simp; omega, by rw [List.all_append, hA, hC]; rfl, u2.trans ((Upto.new nq).trans u4), B4, u4 _ _ (bagNe B nl) ((Same.new nq) _ _ hl2), u4 _ _ (bagNe B ng0) ((Same.new nq) _ _ hg2)⟩
    · rintro σ H2 ⟨a, v5, rfl, ha, hA, u2, B2, hl2, hg2⟩
      have ha : a.length ≤ 7 := by omega
      refine ⟨_, rfl, _, rfl, by omega, by omega, ?_⟩
      refine for_it walk_range (fun i σ H4 => ∃ (L : List Nat) (ws : List (List Nat)) (v5 : Option V), σ = [some (.ref b), some (.int m), some (.ref l), some (.str (S a)), some (.ref g), v5] ∧ L.length = 26 - i ∧ L.all capC = true ∧
        okWs classL ws ∧ ws.length = i ∧ Upto b H H4 ∧ BagAt H4 b ∧ H4 l = some (.lst (txV (oneL L))) ∧ H4 g = some (.lst (txV ws)))
        ⟨_, [], _, rfl, by decide +kernel, by decide +kernel, fun _ h => absurd h (List.not_mem_nil), rfl, u2, B2, hl2, hg2⟩ (fun _ _ _ _ _ => trivial) ?_ ?_
      · rintro i x σ H4 H5 hi ⟨L, ws, v5, rfl, hL, hLs, hw, hwl, u4, B4, hl4, hg4⟩ ⟨rfl, rfl⟩
        have hlen : (txV (oneL L)).length = 26 - i := by rw [txV_len]; simp [oneL, hL]
        refine ⟨_, rfl, .inl ⟨rfl, _, SqL.of hg4⟩, _, rfl, .inl ⟨rfl, _, SqL.of hl4⟩, _, rfl, _, rfl, l, _, rfl, .inl (SqL.of hl4), b, _, rfl, B4, by omega, lt9000 (by omega) (by omega), fun x H6 x0 x1 u6 B6 => ?_⟩
        have hl6 := u6 _ _ (bagNe B nl) hl4
        have hg6 := u6 _ _ (bagNe B ng0) hg4
        rw [hlen] at x1
        have hx : x.toNat < L.length := by omega
        refine ⟨l, _, x, x.toNat, .str (S [L[x.toNat]]), rfl, rfl, hl6, by omega, by omega, seqIx x0 (by rw [hlen]; exact x1), by simp [txV, oneL, hx], ?_⟩
        rw [txV_erase, oneL_erase]
        have hs : capC L[x.toNat] = true := List.all_eq_true.mp hLs _ (List.getElem_mem hx)
        have B7 : BagAt (upd H6 l (.lst (txV (oneL (L.eraseIdx x.toNat))))) b := B6.upd (bagNe B nl)
        have U7 : Upto b H (upd H6 l (.lst (txV (oneL (L.eraseIdx x.toNat))))) := (u4.trans u6).upd nl
        have hg7 : (upd H6 l (.lst (txV (oneL (L.eraseIdx x.toNat))))) g = some (.lst (txV ws)) := by rw [upd_ne (Ne.symm hlg)]; exact hg6
        refine ⟨_, rfl, _, _, rfl, rfl, by rw [S_len, S_len]; exact sz (by simp; omega), ?_⟩
        rw [S_cat]
        refine ⟨g, _, _, rfl, rfl, hg7, by rw [txV_len]; exact Nat.lt_of_le_of_lt (by omega : ws.length ≤ 100) (by decide), ?_⟩
        refine ⟨L.eraseIdx x.toNat, ws ++ [[L[x.toNat]] ++ a], _, rfl, by rw [List.length_eraseIdx_of_lt hx]; omega, List.all_eq_true.mpr fun c hc => List.all_eq_true.mp hLs c (List.mem_of_mem_eraseIdx hc),
            fun y hy => (List.mem_append.mp hy).elim (hw y) (fun h => by cases List.mem_singleton.mp h; exact class_of ha hs (stemT_small hA)), by simp [hwl], U7.upd ng0, B7.upd (bagNe B ng0), by rw [upd_ne hlg]; exact upd_same, by rw [upd_same, txV_snoc]⟩
      · rintro σ H4 ⟨L, ws, v5, rfl, hL, hLs, hw, hwl, u4, B4, hl4, hg4⟩
        exact ⟨_, rfl, k ws g H4 hw (by omega) (bagNe B ng0) ng0 hg4 u4 B4⟩

theorem intN2 {b : Addr} {d : Int} (h : 0 ≤ d) : [V.ref b] ++ [V.int d] = [V.ref b, V.int ((d.toNat : Nat) : Int)] := by
  rw [Int.toNat_of_nonneg h]
  rfl
/-- the words at hand: names, methods, classes -/
def WordsAt (K : PySem.W.Frag) (H : Hp) (b w0 : Addr) : Prop := ∃ (p0 p1 p2 : Addr) (n0 n1 n2 : List (List Nat)), SqT K H w0 [.ref p0, .ref p1, .ref p2, .ref p2] ∧ p0 ≠ b ∧ p1 ≠ b ∧ p2 ≠ b ∧
  H p0 = some (.lst (txV n0)) ∧ H p1 = some (.lst (txV n1)) ∧ H p2 = some (.lst (txV n2)) ∧ okWs wordL n0 ∧ okWs wordL n1 ∧ okWs classL n2 ∧ (1 ≤ n0.length ∧ n0.length ≤ 12) ∧ (1 ≤ n1.length ∧ n1.length ≤ 12) ∧ (2 ≤ n2.length ∧ n2.length ≤ 12)
def spStart (K : PySem.W.Frag) : Sp := fun vs H Q _ => ∃ (b : Addr), vs = [.ref b] ∧ BagAt H b ∧ ∀ (w0 : Addr) H', H w0 = none → WordsAt K H' b w0 → (∀ p, H p = none → p ≠ b → True) → Upto b H H' → BagAt H' b → Q (.ref w0) H'
theorem c__law_start (T : Txt K mg Z) : Cal P w K mg base 4 "_law_start" (spStart K) [] := by
  have c__law_draw : Cal P w K mg base 1 "_law_draw" spDraw [] := c__law_draw T
  have c__law_words : Cal P w K mg base 3 "_law_words" (spWords wordL) [] := c__law_words T
  have c__law_labels : Cal P w K mg base 3 "_law_labels" (spWords classL) [] := c__law_labels T
  refine cal_of T.d__law_start sc__law_start (fun vs H Q E h => ?_) (fun f cdv A outer s H vs Q E hr h => ?_)
  · obtain ⟨b, rfl, _⟩ := h
    rfl
  · obtain ⟨b, rfl, B, k⟩ := h
    refine ⟨_, (pss_cons (ps_par (i := 1) (j := 2) (by rfl) sc__law_start.nd rfl rfl (by decide) rfl rfl (pa_cons (pe_c c__law_words hr (by omega) rfl (pa_cons (pv 0) (pa_cons (pe_op op_add pe_int (pe_c c__law_draw hr (by omega) rfl (pa_cons (pv 0) (pa_cons pe_int pa_nil)))) pa_nil))) (pa_cons (pe_c c__law_words hr (by omega) rfl (pa_cons (pv 0) (pa_cons (pe_op op_add pe_int (pe_c c__law_draw hr (by omega) rfl (pa_cons (pv 0) (pa_cons pe_int pa_nil)))) pa_nil))) pa_nil)) (by rfl))
      (pss_cons (ps_set (i := 3) sc__law_start.nd rfl (by first | exact Or.inl rfl | exact Or.inr rfl) (pe_c c__law_labels hr (by omega) rfl (pa_cons (pv 0) (pa_cons (pe_op op_add pe_int (pe_c c__law_draw hr (by omega) rfl (pa_cons (pv 0) (pa_cons pe_int pa_nil)))) pa_nil))))
      (pss_one (ps_ret (pe_tup (pa_cons (pv 1) (pa_cons (pv 2) (pa_cons (pv 3) (pa_cons (pv 3) pa_nil))))))))), ?_⟩
    refine ⟨_, rfl, _, rfl, b, 10, rfl, B, by decide, lt9000 (by decide) (by decide), fun d H1 d0 d1 u1 B1 => ?_⟩
    refine ⟨_, _, rfl, rfl, b, (1 + d).toNat, intN2 (by omega), B1, by omega, fun n0 p0 H2 o0 l0 e0 f0 h0 u2 B2 => ?_⟩
    refine ⟨_, rfl, _, rfl, b, 10, rfl, B2, by decide, lt9000 (by decide) (by decide), fun c H3 c0 c1 u3 B3 => ?_⟩
    refine ⟨_, _, rfl, rfl, b, (1 + c).toNat, intN2 (by omega), B3, by omega, fun n1 p1 H4 o1 l1 e1 f1 h1 u4 B4 => ⟨_, _, rfl, ?_⟩⟩
    refine ⟨_, rfl, _, rfl, b, 9, rfl, B4, by decide, lt9000 (by decide) (by decide), fun g H5 g0 g1 u5 B5 => ?_⟩
    refine ⟨_, _, rfl, rfl, b, (2 + g).toNat, intN2 (by omega), B5, by omega, fun n2 p2 H6 o2 l2 e2 f2 h2 u6 B6 => ?_⟩
    have U := u1.trans (u2.trans (u3.trans (u4.trans (u5.trans u6))))
    refine ⟨_, rfl, _, rfl, _, rfl, _, rfl, sz (by simp), fun w0 nw => ?_⟩
    have s6 := fun (o : HO) => Same.new (o := o) nw
    have nb : w0 ≠ b := bagNe B6 nw
    have nH : H w0 = none := by
      cases e : H w0 with
      | none => rfl
      | some o =>
        have := U _ _ nb e
        rw [this] at nw
        cases nw
    exact k w0 _ nH ⟨p0, p1, p2, n0, n1, n2, SqT.of upd_same, e0, e1, e2, s6 _ _ _ ((u3.trans (u4.trans (u5.trans u6))) _ _ e0 h0), s6 _ _ _ ((u5.trans u6) _ _ e1 h1), s6 _ _ _ h2, o0, o1, o2, by omega, by omega, by omega⟩ (fun _ _ _ => trivial) (U.trans (Upto.of (s6 _))) (B6.upd nb)
end

/-! ### 8. the law's bodies -/
mutual
def wtS : Stp → Nat
  | .word _ _ => 1
  | .cls _ _ => 1
  | .bare _ => 1
  | .loop b => 2 + wtB b
  | .iff _ a b => 3 + wtB a + wtB b
  | .tr a b => 3 + wtB a + wtB b
  | .ei bs => 1 + wtL bs
def wtB : List Stp → Nat
  | [] => 0
  | s :: b => wtS s + wtB b
def wtL : List (List Stp) → Nat
  | [] => 0
  | b :: bs => 1 + wtB b + wtL bs
end
theorem datB_snoc : ∀ (b : List Stp) (s : Stp), datB (b ++ [s]) = datB b ++ [datS s]
  | [], _ => rfl
  | t :: b, s => congrArg (datS t :: ·) (datB_snoc b s)
theorem datL_snoc : ∀ (b : List (List Stp)) (s : List Stp), datL (b ++ [s]) = datL b ++ [.tuple (datB s)]
  | [], _ => rfl
  | t :: b, s => congrArg (PyData.tuple (datB t) :: ·) (datL_snoc b s)
theorem wtB_snoc : ∀ (b : List Stp) (s : Stp), wtB (b ++ [s]) = wtB b + wtS s
  | [], s => by simp [wtB]
  | t :: b, s => by
    show wtS t + wtB (b ++ [s]) = wtS t + wtB b + wtS s
    rw [wtB_snoc b s]
    omega
theorem wtL_snoc : ∀ (b : List (List Stp)) (s : List Stp), wtL (b ++ [s]) = wtL b + (1 + wtB s)
  | [], s => by simp [wtL]
  | t :: b, s => by
    show 1 + wtB t + wtL (b ++ [s]) = 1 + wtB t + wtL b + (1 + wtB s)
    rw [wtL_snoc b s]
    omega
/-- what stays: all but two -/
def Up2 (b r : Addr) (H H' : Hp) : Prop := ∀ c o, c ≠ b → c ≠ r → H c = some o → H' c = some o
theorem Up2.of {b r : Addr} {H H' : Hp} (u : Upto b H H') : Up2 b r H H' := fun c o h _ e => u c o h e
theorem Up2.ofS {b r : Addr} {H H' : Hp} (u : Same H H') : Up2 b r H H' := fun c o _ _ e => u c o e
theorem Up2.trans {b r : Addr} {H H1 H2 : Hp} (u : Up2 b r H H1) (v : Up2 b r H1 H2) : Up2 b r H H2 := fun c o h1 h2 e => v c o h1 h2 (u c o h1 h2 e)
theorem Up2.refl {b r : Addr} {H : Hp} : Up2 b r H H := fun _ _ _ _ e => e
theorem Up2.upd {b r p : Addr} {H H1 : Hp} {o : HO} (u : Up2 b r H H1) (h : H p = none) : Up2 b r H (upd H1 p o) := fun c q h1 h2 e => by
  rw [upd_ne (ne_of_none e h)]
  exact u c q h1 h2 e
theorem up2_updF {b r p : Addr} {H H1 : Hp} {o : HO} (u : Up2 b r H H1) (h : H1 p = none) : Up2 b r H (upd H1 p o) := fun c q h1 h2 e => by
  have e1 := u c q h1 h2 e
  rw [upd_ne (ne_of_none e1 h)]
  exact e1
theorem up2_updR {b r : Addr} {H H1 : Hp} {o : HO} (u : Up2 b r H H1) : Up2 b r H (upd H1 r o) := fun c q h1 h2 e => by
  rw [upd_ne h2]
  exact u c q h1 h2 e
theorem BagAt.lst {H : Hp} {b : Addr} (B : BagAt H b) : ∃ xs, H b = some (.lst xs) := by
  obtain ⟨x, y, _, e⟩ := B
  exact ⟨_, e⟩
theorem TStay.two {b r : Addr} {H H' : Hp} {xs ys : List V} (hb : H b = some (.lst xs)) (hr : H r = some (.lst ys)) (u : Up2 b r H H') : TStay H H' :=
  ⟨fun a zs ha => u a _ (ne_of ha hb (by intro z; cases z)) (ne_of ha hr (by intro z; cases z)) ha, fun a o q ha => u a _ (ne_of ha hb (by intro z; cases z)) (ne_of ha hr (by intro z; cases z)) ha⟩
theorem TStay.sq {K : PySem.W.Frag} {H H' : Hp} {a : Addr} {xs : List V} (e : TStay H H') (h : SqT K H a xs) : SqT K H' a xs := h.elim (fun z => .inl (e.rd z)) .inr
theorem none_of {b r p : Addr} {H H' : Hp} (u : Up2 b r H H') (h : H' p = none) (h1 : p ≠ b) (h2 : p ≠ r) : H p = none := by
  cases e : H p with
  | none => rfl
  | some o =>
    rw [u _ _ h1 h2 e] at h
    cases h
/-- the room left -/
def RoomAt (H : Hp) (r : Addr) (R : Nat) : Prop := H r = some (.lst [.int (R : Nat)])
theorem txV_first {ws : List (List Nat)} (h : 1 ≤ ws.length) {z : Int} {l : List V} : txV ws ≠ V.int z :: l := by
  cases ws with
  | nil => simp at h
  | cons a ws => intro e; simp [txV] at e
section
variable {K : PySem.W.Frag}
theorem WordsAt.ne {H : Hp} {b w0 r : Addr} {R : Nat} (h : WordsAt K H b w0) (hr : RoomAt H r R) : ∃ (p0 p1 p2 : Addr) (n0 n1 n2 : List (List Nat)), SqT K H w0 [.ref p0, .ref p1, .ref p2, .ref p2] ∧ p0 ≠ b ∧ p1 ≠ b ∧ p2 ≠ b ∧ p0 ≠ r ∧ p1 ≠ r ∧ p2 ≠ r ∧
    H p0 = some (.lst (txV n0)) ∧ H p1 = some (.lst (txV n1)) ∧ H p2 = some (.lst (txV n2)) ∧ okWs wordL n0 ∧ okWs wordL n1 ∧ okWs classL n2 ∧ (1 ≤ n0.length ∧ n0.length ≤ 12) ∧ (1 ≤ n1.length ∧ n1.length ≤ 12) ∧ (2 ≤ n2.length ∧ n2.length ≤ 12) := by
  obtain ⟨p0, p1, p2, n0, n1, n2, hT, e0, e1, e2, h0, h1, h2, o0, o1, o2, l0, l1, l2⟩ := h
  have ne : ∀ {p : Addr} {n : List (List Nat)}, H p = some (.lst (txV n)) → 1 ≤ n.length → p ≠ r := fun {p n} e l q => by
    subst q
    rw [RoomAt, e] at hr
    exact txV_first l (HO.lst.inj (Option.some.inj hr))
  exact ⟨p0, p1, p2, n0, n1, n2, hT, e0, e1, e2, ne h0 l0.1, ne h1 l1.1, ne h2 (by omega), h0, h1, h2, o0, o1, o2, l0, l1, l2⟩
theorem WordsAt.stay {H H' : Hp} {b w0 r : Addr} {R : Nat} (h : WordsAt K H b w0) (hr : RoomAt H r R) (hb : BagAt H b) (u : Up2 b r H H') : WordsAt K H' b w0 := by
  obtain ⟨p0, p1, p2, n0, n1, n2, hT, e0, e1, e2, f0, f1, f2, h0, h1, h2, o⟩ := h.ne hr
  obtain ⟨xs, hb⟩ := hb.lst
  exact ⟨p0, p1, p2, n0, n1, n2, (TStay.two hb hr u).sq hT, e0, e1, e2, u _ _ e0 f0 h0, u _ _ e1 f1 h1, u _ _ e2 f2 h2, o⟩
def spLStep (K : PySem.W.Frag) (n : Nat) : Sp := fun vs H Q _ => ∃ (b w0 r : Addr) (R d : Nat), vs = [.ref b, .ref w0, .ref r, .int (d : Nat)] ∧ d ≤ n ∧ BagAt H b ∧ r ≠ b ∧ RoomAt H r R ∧ WordsAt K H b w0 ∧
  ∀ (v : V) (s : Stp) (R' : Nat) H', okSt (okK d) s → Dt K H' v (datS s) → wtS s + 4 * R' ≤ 4 * R + 4 → RoomAt H' r R' → Up2 b r H H' → BagAt H' b → Q v H'
def spLBody (K : PySem.W.Frag) (n : Nat) : Sp := fun vs H Q _ => ∃ (b w0 r : Addr) (R d : Nat), vs = [.ref b, .ref w0, .ref r, .int (d : Nat)] ∧ d < n ∧ BagAt H b ∧ r ≠ b ∧ RoomAt H r R ∧ WordsAt K H b w0 ∧
  ∀ (v : V) (bd : List Stp) (R' : Nat) H', okK (d + 1) bd → Dt K H' v (.tuple (datB bd)) → wtB bd + 4 * R' ≤ 4 * R → RoomAt H' r R' → Up2 b r H H' → BagAt H' b → Q v H'
end
section
variable {P : Program} {w : World} {K : PySem.W.Frag} {mg : Str → Option Value} {base : Heap} {Z : Addrs}
/-- what the law's step is made with: nothing, or bodies a depth less -/
theorem c__law_body (T : Txt K mg Z) {n l : Nat} (hl : 1 ≤ l) (c__law_step : Cal P w K mg base l "_law_step" (spLStep K n) []) : Cal P w K mg base (l + 1) "_law_body" (spLBody K (n + 1)) [] := by
  have c__law_draw : Cal P w K mg base 1 "_law_draw" spDraw [] := c__law_draw T
  refine cal_of T.d__law_body sc__law_body (fun vs H Q E h => ?_) (fun f cdv A outer s H vs Q E hr h => ?_)
  · obtain ⟨b, w0, r, R, d, rfl, _⟩ := h
    rfl
  · obtain ⟨b, w0, r, R, d, rfl, hd, B, hrb, hR, hW, k⟩ := h
    refine ⟨_, (pss_cons (ps_set (i := 4) sc__law_body.nd rfl (by first | exact Or.inl rfl | exact Or.inr rfl) (pe_lst pa_nil))
      (pss_cons (ps_for PassesOwn.never rfl (pi_range1 rfl T.b_range (pa_cons (pe_c c__law_draw hr (by omega) rfl (pa_cons (pv 0) (pa_cons pe_int pa_nil))) pa_nil)) (pg_name (i := 5) sc__law_body.nd rfl (by first | exact Or.inl rfl | exact Or.inr rfl)) (pss_one (ps_if (pt_cmpR op_gt (pe_ix ix_list (pv 2) pe_int (fun _ _ => rfl)) pe_int (nomark _)) (pss_cons (ps_asg (pe_op op_sub (pe_ix ix_list (pv 2) pe_int (fun _ _ => rfl)) pe_int) (pg_sub (pv 2) pe_int set_list))
      (pss_one (ps_expr (pe_bm PySem.F.plainAttrs_list PySem.F.slot_list_append PySem.F.type_list_append mt_append (pv 4) (pa_cons (pe_c c__law_step hr (by omega) rfl (pa_cons (pv 0) (pa_cons (pv 1) (pa_cons (pv 2) (pa_cons (pv 3) pa_nil))))) pa_nil))))) pss_nil)))
      (pss_one (ps_ret (pe_callTy call_tuple_of (by rfl) T.b_tuple (by decide +kernel) (pa_cons (pv 4) pa_nil)))))), ?_⟩
    refine ⟨by decide, fun g ng => ?_⟩
    have gb : g ≠ b := bagNe B ng
    have gr : g ≠ r := fun e => by
      subst e
      rw [RoomAt, ng] at hR
      cases hR
    have B0 : BagAt (upd H g (.lst [])) b := B.upd gb
    refine ⟨_, rfl, b, 4, rfl, B0, by decide, lt9000 (by decide) (by decide), fun m H1 m0 m1 u1 B1 => ⟨_, rfl, by omega, by omega, ?_⟩⟩
    have U1 : Up2 b r H H1 := (Up2.ofS (Same.new ng)).trans (Up2.of u1)
    have R1 : RoomAt H1 r R := u1 _ _ hrb (by rw [upd_ne (Ne.symm gr)]; exact hR)
    have hg1 : H1 g = some (.lst []) := u1 _ _ gb upd_same
    refine for_it walk_range (fun i σ H2 => ∃ (vs : List V) (bd : List Stp) (R2 : Nat) (v5 : Option V), σ = [some (.ref b), some (.ref w0), some (.ref r), some (.int (d : Nat)), some (.ref g), v5] ∧ bd.length ≤ i ∧ okK (d + 1) bd ∧ DtAll K H2 vs (datB bd) ∧
      wtB bd + 4 * R2 ≤ 4 * R ∧ RoomAt H2 r R2 ∧ Up2 b r H H2 ∧ BagAt H2 b ∧ H2 g = some (.lst vs)) ⟨[], [], R, none, rfl, Nat.le_refl _, (fun _ h => absurd h (List.not_mem_nil)), .nil, by simp [wtB], R1, U1, B1, hg1⟩ (fun _ _ _ _ _ => trivial) ?_ ?_
    · rintro i x σ H2 H3 hi ⟨vs, bd, R2, v5, rfl, hlen, hok, hD, hwt, hR2, u2, B2, hg2⟩ ⟨rfl, rfl⟩
      refine ⟨_, rfl, r, _, 0, _, rfl, rfl, SqL.of hR2, rfl, _, _, rfl, rfl, _, rfl, ?_⟩
      refine ite2 (fun h1 => ?_) (fun h1 => ?_)
      · have h1 : 1 ≤ R2 := by have := of_decide_eq_true h1; omega
        refine ⟨_, rfl, r, _, 0, _, rfl, rfl, SqL.of hR2, rfl, _, _, rfl, rfl, _, rfl, r, _, _, 0, rfl, rfl, hR2, rfl, ?_⟩
        have hR3 : RoomAt (upd H3 r (.lst [.int ((R2 : Int) - 1)])) r (R2 - 1) := by
          rw [RoomAt, upd_same, Int.natCast_sub h1]
          rfl
        have u3 : Up2 b r H (upd H3 r (.lst [.int ((R2 : Int) - 1)])) := up2_updR u2
        have B3 : BagAt (upd H3 r (.lst [.int ((R2 : Int) - 1)])) b := B2.upd hrb
        have hg3 : (upd H3 r (.lst [.int ((R2 : Int) - 1)])) g = some (.lst vs) := by rw [upd_ne gr]; exact hg2
        have ts3 : TStay H3 (upd H3 r (.lst [.int ((R2 : Int) - 1)])) := TStay.lst hR2
        refine ⟨_, rfl, .inl ⟨rfl, _, SqL.of hg3⟩, _, rfl, _, rfl, _, rfl, _, rfl, b, w0, r, R2 - 1, d, rfl, Nat.le_of_lt_succ hd, B3, hrb, hR3, hW.stay hR B u3, fun v s R4 H4 so sd sw hR4 u4 B4 => ?_⟩
        obtain ⟨zs, hb3⟩ := B3.lst
        have ts4 := TStay.two hb3 hR3 u4
        have hg4 := u4 _ _ gb gr hg3
        have ts5 := TStay.lst (o := .lst (vs ++ [v])) hg4
        refine ⟨g, _, _, rfl, rfl, hg4, by rw [dtAll_len hD, datB_len]; exact Nat.lt_of_le_of_lt (by omega : bd.length ≤ 100) (by decide), ?_⟩
        refine ⟨vs ++ [v], bd ++ [s], R4, _, rfl, by simp; omega, fun t ht => (List.mem_append.mp ht).elim (hok t) (fun h => by cases List.mem_singleton.mp h; exact so), ?_, by rw [wtB_snoc]; omega, by rw [RoomAt, upd_ne (Ne.symm gr)]; exact hR4, ?_, B4.upd gb, upd_same⟩
        · rw [datB_snoc]
          exact dtAll_snoc (dtAll_stay (TStay.trans ts3 (TStay.trans ts4 ts5)) _ _ hD) (dt_stay ts5 _ _ sd)
        · exact (u3.trans u4).upd ng
      · exact ⟨vs, bd, R2, _, rfl, by omega, hok, hD, hwt, hR2, u2, B2, hg2⟩
    · rintro σ H2 ⟨vs, bd, R2, v5, rfl, hlen, hok, hD, hwt, hR2, u2, B2, hg2⟩
      refine ⟨_, rfl, g, vs, rfl, .inl ⟨SqL.of hg2, fun q nq => ?_⟩⟩
      have st := Same.new (o := .tup vs) nq
      have nqr : q ≠ r := fun e => by
        subst e
        rw [RoomAt, nq] at hR2
        cases hR2
      exact k _ bd R2 _ hok (.tup (SqT.of upd_same) (dtAll_stay (TStay.of st) _ _ hD)) hwt (by rw [RoomAt, upd_ne (Ne.symm nqr)]; exact hR2) (u2.trans (Up2.ofS st)) (B2.upd (bagNe B2 nq))
theorem c__law_body0 (T : Txt K mg Z) : Cal P w K mg base 2 "_law_body" (spLBody K 0) [] := by
  refine cal_of T.d__law_body sc__law_body (fun vs H Q E h => ?_) (fun f cdv A outer s H vs Q E hr h => ?_)
  · obtain ⟨b, w0, r, R, d, rfl, h, _⟩ := h
    exact absurd h (Nat.not_lt_zero _)
  · obtain ⟨b, w0, r, R, d, rfl, h, _⟩ := h
    exact absurd h (Nat.not_lt_zero _)
end

theorem atI_some {α : Type} {xs : List α} {i : Int} (h0 : 0 ≤ i) (h : i < (xs.length : Int)) : ∃ v, atI xs i = some v ∧ v ∈ xs := by
  obtain ⟨j, rfl⟩ : ∃ j : Nat, i = (j : Int) := ⟨i.toNat, by omega⟩
  exact ⟨xs[j], atI_nat (by simp [show j < xs.length by omega]), List.getElem_mem (by omega)⟩
def Asc (a : List Nat) : Prop := ∀ c ∈ a, c < 128
theorem isL_lt {c : Nat} (h : isL c = true) : c < 128 := by
  simp only [isL, Bool.or_eq_true, smallC, capC, decide_eq_true_eq] at h
  have h1 : ∀ c ∈ ("abcdefghijklmnopqrstuvwxyz" : Str).cps.toList, c < 128 := by decide +kernel
  have h2 : ∀ c ∈ ("ABCDEFGHIJKLMNOPQRSTUVWXYZ" : Str).cps.toList, c < 128 := by decide +kernel
  exact h.elim (h1 c) (h2 c)
theorem tok_asc {a : List Nat} (h : a ≠ [] ∧ ∀ x ∈ a, isL x = true) : Asc a := fun c hc => isL_lt (h.2 c hc)
theorem strOk_S {a : List Nat} (h : Asc a) : PyData.strOk (S a) = true := by
  simp only [PyData.strOk, Array.all_eq_true_iff_forall_mem]
  intro c hc
  have := h c (by simpa using hc)
  simp
  omega
def strsD (ws : List (List Nat)) : List PyData := ws.map fun a => .str (S a)
theorem dp_txV {K : PySem.W.Frag} {H : Hp} : ∀ ws : List (List Nat), DpAll K H (txV ws) (strsD ws)
  | [] => .nil
  | a :: ws => .cons (.str _) (dp_txV ws)
theorem lay_strsD : ∀ {ws : List (List Nat)}, (∀ a ∈ ws, Asc a) → PyData.canLayAll0 (strsD ws) = true
  | [], _ => rfl
  | a :: ws, h => by
    show (PyData.strOk (S a) && PyData.canLayAll0 (strsD ws)) = true
    rw [lay_strsD fun c hc => h c (List.mem_cons_of_mem _ hc), strOk_S (h a (List.mem_cons_self ..))]
    rfl
theorem dep_strsD : ∀ ws : List (List Nat), PyData.depthAll (strsD ws) = 0
  | [] => rfl
  | a :: ws => by
    show max (PyData.depth (.str (S a))) (PyData.depthAll (strsD ws)) = 0
    rw [dep_strsD ws]
    rfl
theorem shaped_strsD {ws : List (List Nat)} (h : ∀ a ∈ ws, Asc a) : SeqAt.shaped (.list (strsD ws)) = true := by
  have e : PyData.canLay0 (.list (strsD ws)) = true := lay_strsD h
  have e2 : PyData.depth (.list (strsD ws)) = PyData.depthAll (strsD ws) + 1 := rfl
  simp [SeqAt.shaped, e, e2, dep_strsD]
theorem txV_mem {v : V} {ws : List (List Nat)} (h : v ∈ txV ws) : ∃ a, a ∈ ws ∧ v = .str (S a) := by
  simp only [txV, List.mem_map] at h
  obtain ⟨x, ⟨a, ha, rfl⟩, rfl⟩ := h
  exact ⟨a, ha, rfl⟩
section
variable {P : Program} {w : World} {K : PySem.W.Frag} {mg : Str → Option Value} {base : Heap} {Z : Addrs}
theorem c__law_step (T : Txt K mg Z) {n l : Nat} (hl : 2 ≤ l) (c__law_body : Cal P w K mg base l "_law_body" (spLBody K n) []) : Cal P w K mg base (l + 1) "_law_step" (spLStep K n) [] := by
  have c__law_draw : Cal P w K mg base 1 "_law_draw" spDraw [] := c__law_draw T
  have c__law_one : Cal P w K mg base 2 "_law_one" (spOne K) [] := c__law_one T
  refine cal_of T.d__law_step sc__law_step (fun vs H Q E h => ?_) (fun f cdv A outer s H vs Q E hr h => ?_)
  · obtain ⟨b, w0, r, R, d, rfl, _⟩ := h
    rfl
  · obtain ⟨b, w0, r, R, d, rfl, hd, B, hrb, hR, hW, k⟩ := h
    refine ⟨_, (C8.pss_cut (ps_set (i := 4) sc__law_step.nd rfl (by first | exact Or.inl rfl | exact Or.inr rfl) (pe_c c__law_draw hr (by omega) rfl (pa_cons (pv 0) (pa_cons (pe_ifExp (pt_cmpR op_gt (pv 3) pe_int (nomark _)) pe_int pe_int) pa_nil))))
      (pss_cons (ps_if (pt_cmpR op_lt (pv 4) pe_int (nomark _)) (pss_one (ps_ret (pe_tup (pa_cons (pe_ix ix_list (pe_lst (pa_cons pe_str (pa_cons pe_str (pa_cons pe_str (pa_cons pe_str (pa_cons pe_str (pa_cons pe_str pa_nil))))))) (pv 4) (fun _ _ => rfl)) (pa_cons (pe_c c__law_one hr (by omega) rfl (pa_cons (pv 0) (pa_cons (pe_ix ix_tup (pv 1) pe_int (fun _ _ => rfl)) pa_nil))) pa_nil))))) pss_nil)
      (pss_cons (ps_if (pt_cmpR op_lt (pv 4) pe_int (nomark _)) (pss_one (ps_ret (pe_tup (pa_cons pe_str (pa_cons (pe_c c__law_one hr (by omega) rfl (pa_cons (pv 0) (pa_cons (pe_ix ix_tup (pv 1) pe_int (fun _ _ => rfl)) pa_nil))) pa_nil))))) pss_nil)
      (pss_cons (ps_if (PW.pt (pw_or (pt_cmpR op_lt (pv 4) pe_int (nomark _)) (pw_or1 (PW.pt (pw_and (pt_cmpR op_lt (pv 4) pe_int (nomark _)) (pw_and1 (pt_cmpR (op_eqD hr.units) (pe_ix ix_tup (pv 1) (pe_op op_sub (pv 4) pe_int) (fun _ _ => rfl)) (pe_lst pa_nil) (nomark _)))))))) (pss_one (ps_ret (pe_ifExp (pt_cmpR op_eq (pv 4) pe_int (nomark _)) (pe_tup (pa_cons pe_str pa_nil)) (pe_tup (pa_cons pe_str pa_nil))))) pss_nil)
      (pss_cons (ps_if (pt_cmpR op_lt (pv 4) pe_int (nomark _)) (pss_one (ps_ret (pe_tup (pa_cons (pe_ifExp (pt_cmpR op_eq (pv 4) pe_int (nomark _)) pe_str pe_str) (pa_cons (pe_c c__law_one hr (by omega) rfl (pa_cons (pv 0) (pa_cons (pe_ix ix_tup (pv 1) (pe_op op_sub (pv 4) pe_int) (fun _ _ => rfl)) pa_nil))) pa_nil))))) pss_nil)
      (pss_cons (ps_set (i := 5) sc__law_step.nd rfl (by first | exact Or.inl rfl | exact Or.inr rfl) (pe_lst pa_nil))
      (pss_cons (ps_for PassesOwn.never rfl (pi_range1 rfl T.b_range (pa_cons (pe_op op_add pe_int (pe_c c__law_draw hr (by omega) rfl (pa_cons (pv 0) (pa_cons pe_int pa_nil)))) pa_nil)) (pg_name (i := 6) sc__law_step.nd rfl (by first | exact Or.inl rfl | exact Or.inr rfl)) (pss_one (ps_expr (pe_bm PySem.F.plainAttrs_list PySem.F.slot_list_append PySem.F.type_list_append mt_append (pv 5) (pa_cons (pe_c c__law_body hr (by omega) rfl (pa_cons (pv 0) (pa_cons (pv 1) (pa_cons (pv 2) (pa_cons (pe_op op_sub (pv 3) pe_int) pa_nil))))) pa_nil)))))
      (pss_cons (ps_if (pt_cmpR op_eq (pv 4) pe_int (nomark _)) (pss_one (ps_ret (pe_tup (pa_cons pe_str (pa_cons (pe_c c__law_one hr (by omega) rfl (pa_cons (pv 0) (pa_cons (pe_ix ix_tup (pv 1) pe_int (fun _ _ => rfl)) pa_nil))) (pa_cons (pe_ix ix_list (pv 5) pe_int (fun _ _ => rfl)) (pa_cons (pe_ix ix_list (pv 5) pe_int (fun _ _ => rfl)) pa_nil))))))) pss_nil)
      (pss_cons (ps_if (pt_cmpR op_eq (pv 4) pe_int (nomark _)) (pss_one (ps_ret (pe_tup (pa_cons pe_str (pa_cons (pe_ix ix_list (pv 5) pe_int (fun _ _ => rfl)) (pa_cons (pe_ix ix_list (pv 5) pe_int (fun _ _ => rfl)) pa_nil)))))) pss_nil)
      (pss_one (ps_ret (pe_ifExp (pt_cmpR op_eq (pv 4) pe_int (nomark _)) (pe_tup (pa_cons pe_str (pa_cons (pe_ix ix_list (pv 5) pe_int (fun _ _ => rfl)) pa_nil))) (pe_tup (pa_cons pe_str (pa_cons (pe_callTy call_tuple_of (by rfl) T.b_tuple (by decide +kernel) (pa_cons (pv 5) pa_nil)) pa_nil))))))))))))))), ?_⟩
    -- kind
    refine ⟨fun σ' H' => ∃ (kd : Int), σ' = [some (.ref b), some (.ref w0), some (.ref r), some (.int (d : Nat)), some (.int kd), none, none] ∧ 0 ≤ kd ∧ kd < 16 ∧ (d = 0 → kd < 12) ∧ Upto b H H' ∧ BagAt H' b, ?_, ?_⟩
    · refine ⟨_, rfl, _, rfl, _, _, rfl, rfl, _, rfl, ?_⟩
      refine ite2 (fun h1 => ?_) (fun h1 => ?_)
      · have h1 := of_decide_eq_true h1
        exact ⟨b, 16, rfl, B, by decide, lt9000 (by decide) (by decide), fun kd H1 k0 k1 u1 B1 => ⟨kd, rfl, k0, k1, fun e => by omega, u1, B1⟩⟩
      · exact ⟨b, 12, rfl, B, by decide, lt9000 (by decide) (by decide), fun kd H1 k0 k1 u1 B1 => ⟨kd, rfl, k0, by omega, fun e => k1, u1, B1⟩⟩
    rintro σ H1 ⟨kd, rfl, k0, k1, kz, u1, B1⟩
    have R1 : RoomAt H1 r R := u1 _ _ hrb hR
    obtain ⟨zs1, hb3'⟩ := B1.lst
    have hW1 := hW.stay hR B (Up2.of u1)
    obtain ⟨p0, p1, p2, n0, n1, n2, hT, e0, e1, e2, f0, f1, f2, h0, h1, h2, o0, o1, o2, l0, l1, l2⟩ := hW1.ne R1
    have done : ∀ {xs : List V} {ds : List PyData} {s : Stp} {H2 : Hp}, Upto b H1 H2 → BagAt H2 b → okSt (okK d) s → wtS s ≤ 4 → datS s = .tuple ds → (∀ H', DtAll K H' xs ds) → ∀ q, H2 q = none → Q (.ref q) (upd H2 q (.tup xs)) :=
      fun {xs ds s H2} u B2 so wt e D q nq => k _ s R _ so (e ▸ .tup (SqT.of upd_same) (D _)) (by omega) ((Same.new nq) _ _ (u _ _ hrb R1)) (up2_updF (Up2.of (u1.trans u)) nq) (B2.upd (bagNe B2 nq))
    have sT : ∀ {H' : Hp}, Same H1 H' → SqT K H' w0 [.ref p0, .ref p1, .ref p2, .ref p2] := fun s => (TStay.of s).sq hT
    -- kind < 6
    refine ⟨_, rfl, _, _, rfl, rfl, _, rfl, ?_⟩
    refine ite2 (fun h6 => ?_) (fun h6 => ?_)
    · have h6 := of_decide_eq_true h6
      obtain ⟨v, hv, hm⟩ := atI_some (xs := [V.str "keep", V.str "set", V.str "keep", V.str "set", V.str "read", V.str "look"]) k0 h6
      obtain ⟨wd, rfl, hw⟩ : ∃ wd, v = .str (S wd) ∧ inV (.str (S wd)) withV = true := by
        have := List.all_eq_true.mp (show List.all _ (fun v => match v with | .str x => inV (.str x) withV | _ => false) = true by decide +kernel) v hm
        cases v with
        | str x => exact ⟨x.cps.toList, by rw [S_tl], by rw [S_tl]; exact this⟩
        | _ => cases this
      refine ⟨by decide, fun q1 nq1 => ⟨_, rfl, q1, _, kd, _, rfl, rfl, SqL.of upd_same, hv, ?_⟩⟩
      have s1 := Same.new (o := .lst [V.str "keep", V.str "set", V.str "keep", V.str "set", V.str "read", V.str "look"]) nq1
      refine ⟨_, rfl, _, rfl, w0, _, 0, _, rfl, rfl, sT s1, rfl, b, p0, _, rfl, B1.same s1, e0, s1 _ _ h0, by rw [txV_len]; omega, by rw [txV_len]; omega, fun v H2 hv u2 B2 => ?_⟩
      obtain ⟨a, ha, rfl⟩ := txV_mem hv
      exact ⟨sz (by simp), done (s := .word wd a) ((Upto.of s1).trans u2) B2 ⟨hw, o0 a ha⟩ (by simp [wtS]) rfl (fun _ => .cons (.str _) (.cons (.str _) .nil))⟩
    -- kind < 8
    refine ⟨_, rfl, _, _, rfl, rfl, _, rfl, ?_⟩
    refine ite2 (fun h8 => ?_) (fun h8 => ?_)
    · refine ⟨_, rfl, _, rfl, w0, _, 1, _, rfl, rfl, hT, rfl, b, p1, _, rfl, B1, e1, h1, by rw [txV_len]; omega, by rw [txV_len]; omega, fun v H2 hv u2 B2 => ?_⟩
      obtain ⟨a, ha, rfl⟩ := txV_mem hv
      exact ⟨sz (by simp), done (s := .word (kw "call") a) u2 B2 ⟨by decide +kernel, o1 a ha⟩ (by simp [wtS]) rfl (fun _ => .cons (.str _) (.cons (.str _) .nil))⟩
    have h6 : ¬ kd < 6 := fun e => h6 (decide_eq_true e)
    have h8 : ¬ kd < 8 := fun e => h8 (decide_eq_true e)
    -- kind < 10
    refine ⟨_, rfl, _, _, rfl, rfl, _, rfl, ?_⟩
    refine ite2 (fun h10 => ?_) (fun h10 => ?_)
    · refine ⟨_, rfl, rfl, _, rfl, ?_⟩
      refine ite2 (fun h9 => ?_) (fun h9 => ?_)
      · exact ⟨sz (by simp), done (s := .bare (kw "fail")) (Upto.refl _ _) B1 (.inr rfl) (by simp [wtS]) rfl (fun _ => .cons (.str _) .nil)⟩
      · exact ⟨sz (by simp), done (s := .bare (kw "super")) (Upto.refl _ _) B1 (.inl rfl) (by simp [wtS]) rfl (fun _ => .cons (.str _) .nil)⟩
    have h10 : ¬ kd < 10 := fun e => h10 (decide_eq_true e)
    refine ⟨_, rfl, _, _, rfl, rfl, _, rfl, ?_⟩
    refine ite2 (fun h12 => ?_) (fun h12 => ?_)
    · have h12' := of_decide_eq_true h12
      have hat : atI [V.ref p0, V.ref p1, V.ref p2, V.ref p2] (kd - 8) = some (.ref p2) := by
        have : kd = 10 ∨ kd = 11 := by omega
        rcases this with rfl | rfl <;> rfl
      refine ⟨_, rfl, _, rfl, _, _, rfl, rfl, w0, _, kd - 8, _, rfl, rfl, hT, hat, by decide, fun q nq => ?_⟩
      have s1 := Same.new (o := .lst []) nq
      have ac : ∀ a ∈ n2, Asc a := fun a ha => tok_asc (class_tok (o2 a ha))
      refine ⟨_, _, .lst (SqL.of (s1 _ _ h2)) (dp_txV _), .lst (SqL.of upd_same) .nil, shaped_strsD ac, rfl, _, rfl, ?_⟩
      have ev : PyData.eqv (.list (strsD n2)) (.list []) = false := by
        cases n2 with
        | nil => exact absurd l2.1 (by decide)
        | cons a n2 => rfl
      rw [ev]
      refine iteF ?_
      refine ⟨_, rfl, _, _, rfl, rfl, _, rfl, iteY h12' ?_⟩
      refine ⟨_, rfl, rfl, _, rfl, ?_⟩
      have fin : ∀ (wd : Str), inV (.str wd) classV = true → ∀ (v : V) (H2 : Hp), v ∈ txV n2 → Upto b (upd H1 q (.lst [])) H2 → BagAt H2 b → ∀ q, H2 q = none → Q (.ref q) (upd H2 q (.tup [.str wd, v])) := fun wd hwd v H2 hv u2 B2 => by
        obtain ⟨a, ha, rfl⟩ := txV_mem hv
        exact done (s := .cls (kw wd) a) ((Upto.of s1).trans u2) B2 ⟨by rw [S_kw]; exact hwd, o2 a ha⟩ (by simp [wtS]) (by rw [datS, S_kw]) (fun _ => .cons (.str _) (.cons (.str _) .nil))
      refine ite2 (fun h9 => ?_) (fun h9 => ?_)
      · refine ⟨_, rfl, _, rfl, _, rfl, _, _, rfl, rfl, w0, _, kd - 8, _, rfl, rfl, sT s1, hat, b, p2, _, rfl, B1.same s1, e2, s1 _ _ h2, by rw [txV_len]; omega, by rw [txV_len]; omega, fun v H2 hv u2 B2 => ⟨sz (by simp), fin "of" (by decide +kernel) v H2 hv u2 B2⟩⟩
      · refine ⟨_, rfl, _, rfl, _, rfl, _, _, rfl, rfl, w0, _, kd - 8, _, rfl, rfl, sT s1, hat, b, p2, _, rfl, B1.same s1, e2, s1 _ _ h2, by rw [txV_len]; omega, by rw [txV_len]; omega, fun v H2 hv u2 B2 => ⟨sz (by simp), fin "make" (by decide +kernel) v H2 hv u2 B2⟩⟩
    have h12 : ¬ kd < 12 := fun e => h12 (decide_eq_true e)
    refine ⟨_, rfl, _, _, rfl, rfl, _, rfl, iteN h12 ?_⟩
    obtain ⟨d', rfl⟩ : ∃ d', d = d' + 1 := ⟨d - 1, by have : ¬ d = 0 := fun e => h12 (kz e); omega⟩
    -- blocks = []
    refine ⟨by decide, fun g ng => ?_⟩
    have gb : g ≠ b := bagNe B1 ng
    have gr : g ≠ r := fun e => by
      subst e
      rw [RoomAt, ng] at R1
      cases R1
    have B2 : BagAt (upd H1 g (.lst [])) b := B1.upd gb
    refine ⟨_, rfl, b, 2, rfl, B2, by decide, lt9000 (by decide) (by decide), fun m H2 m0 m1 u2 B2 => ⟨_, _, rfl, rfl, _, rfl, by omega, by omega, ?_⟩⟩
    have U2 : Up2 b r H1 H2 := (Up2.ofS (Same.new ng)).trans (Up2.of u2)
    have R2 : RoomAt H2 r R := u2 _ _ hrb (by rw [upd_ne (Ne.symm gr)]; exact R1)
    have hg2 : H2 g = some (.lst []) := u2 _ _ gb upd_same
    refine for_it walk_range (fun i σ H3 => ∃ (vs : List V) (bs : List (List Stp)) (R3 : Nat) (v6 : Option V), σ = [some (.ref b), some (.ref w0), some (.ref r), some (.int ((d' + 1 : Nat) : Int)), some (.int kd), some (.ref g), v6] ∧ bs.length = i ∧ (∀ c ∈ bs, okK (d' + 1) c) ∧ DtAll K H3 vs (datL bs) ∧
      wtL bs + 4 * R3 ≤ 4 * R + i ∧ RoomAt H3 r R3 ∧ Up2 b r H1 H3 ∧ BagAt H3 b ∧ H3 g = some (.lst vs)) ⟨[], [], R, none, rfl, rfl, (fun _ h => absurd h (List.not_mem_nil)), .nil, by simp [wtL], R2, U2, B2, hg2⟩ (fun _ _ _ _ _ => trivial) ?_ ?_
    · rintro i x σ H3 H4 hi ⟨vs, bs, R3, v6, rfl, hlen, hok, hD, hwt, hR3, u3, B3, hg3⟩ ⟨rfl, rfl⟩
      have i4 : i < 4 := by omega
      refine ⟨_, rfl, .inl ⟨rfl, _, SqL.of hg3⟩, _, rfl, _, rfl, _, rfl, _, rfl, _, _, rfl, rfl, b, w0, r, R3, d', (by show [V.ref b, V.ref w0, V.ref r, V.int (((d' + 1 : Nat) : Int) - 1)] = _; rw [show ((d' + 1 : Nat) : Int) - 1 = (d' : Int) by omega]), by omega, B3, hrb, hR3, hW1.stay R1 B1 u3, fun v bd R4 H4 so sd sw hR4 u4 B4 => ?_⟩
      obtain ⟨zs, hb3⟩ := B3.lst
      have ts4 := TStay.two hb3 hR3 u4
      have hg4 := u4 _ _ gb gr hg3
      have ts5 := TStay.lst (o := .lst (vs ++ [v])) hg4
      refine ⟨g, _, _, rfl, rfl, hg4, by rw [dtAll_len hD, datL_len]; exact Nat.lt_of_le_of_lt (by omega : bs.length ≤ 100) (by decide), ?_⟩
      refine ⟨vs ++ [v], bs ++ [bd], R4, _, rfl, by simp [hlen], fun t ht => (List.mem_append.mp ht).elim (hok t) (fun h => by cases List.mem_singleton.mp h; exact so), ?_, by rw [wtL_snoc]; omega, by rw [RoomAt, upd_ne (Ne.symm gr)]; exact hR4, ?_, B4.upd gb, upd_same⟩
      · rw [datL_snoc]
        exact dtAll_snoc (dtAll_stay (TStay.trans ts4 ts5) _ _ hD) (dt_stay ts5 _ _ sd)
      · exact (u3.trans u4).upd ng
    · rintro σ H3 ⟨vs, bs, R3, v6, rfl, hlen, hok, hD, hwt, hR3, u3, B3, hg3⟩
      have R3' : ∀ {q : Addr}, H3 q = none → q ≠ r := fun {q} nq e => by
        subst e
        rw [RoomAt, nq] at hR3
        cases hR3
      have U3 : Up2 b r H H3 := (Up2.of u1).trans u3
      have hl2 : 2 ≤ bs.length := by omega
      have hl3 : bs.length ≤ 3 := by omega
      match bs, vs, hD, hl2 with
      | ba :: bb :: bs, va :: vb :: vs, .cons D1 (.cons D2 D3), _ =>
        have ba_ok := hok ba (by simp)
        have bb_ok := hok bb (by simp)
        have hwt' : wtB ba + wtB bb + wtL bs + 2 + 4 * R3 ≤ 4 * R + 3 := by
          simp only [wtL] at hwt
          omega
        obtain ⟨zs, hb3⟩ := B3.lst
        have fin : ∀ {H4 H5 : Hp} (xs : List V) (ds : List PyData) (s : Stp), Upto b H3 H4 → BagAt H4 b → Same H4 H5 → okSt (okK (d' + 1)) s → wtS s ≤ wtB ba + wtB bb + wtL bs + 3 → datS s = .tuple ds → DtAll K H5 xs ds → ∀ q, H5 q = none → Q (.ref q) (upd H5 q (.tup xs)) :=
          fun {H4 H5} xs ds s u4 B4 s5 so wt e D q nq => k _ s R3 _ so (e ▸ .tup (SqT.of upd_same) (dtAll_stay (TStay.of (Same.new nq)) _ _ D)) (by omega) ((s5.trans (Same.new nq)) _ _ (u4 _ _ hrb hR3)) (up2_updF ((U3.trans (Up2.of u4)).trans (Up2.ofS s5)) nq) ((B4.same s5).upd (bagNe (B4.same s5) nq))
        refine ⟨_, rfl, rfl, _, rfl, ?_⟩
        refine ite2 (fun q12 => ?_) (fun q12 => ?_)
        · refine ⟨_, rfl, _, rfl, w0, _, 0, _, rfl, rfl, (TStay.two hb3' R1 u3).sq hT, rfl, b, p0, _, rfl, B3, e0, u3 _ _ e0 f0 h0, by rw [txV_len]; omega, by rw [txV_len]; omega, fun v H4 hv u4 B4 => ?_⟩
          obtain ⟨a, ha, rfl⟩ := txV_mem hv
          have hg4 := u4 _ _ gb hg3
          have ts := TStay.two hb3 hR3 (Up2.of u4)
          refine ⟨_, rfl, g, _, 0, _, rfl, rfl, SqL.of hg4, atI_nat (j := 0) rfl, _, rfl, g, _, 1, _, rfl, rfl, SqL.of hg4, atI_nat (j := 1) rfl, sz (by simp), ?_⟩
          exact fin _ _ (.iff a ba bb) u4 B4 (Same.refl _) ⟨o0 a ha, ba_ok, bb_ok⟩ (by simp [wtS]; omega) rfl (.cons (.str _) (.cons (.str _) (.cons (dt_stay ts _ _ D1) (.cons (dt_stay ts _ _ D2) .nil))))
        refine ⟨_, rfl, rfl, _, rfl, ?_⟩
        refine ite2 (fun q13 => ?_) (fun q13 => ?_)
        · refine ⟨_, rfl, g, _, 0, _, rfl, rfl, SqL.of hg3, atI_nat (j := 0) rfl, _, rfl, g, _, 1, _, rfl, rfl, SqL.of hg3, atI_nat (j := 1) rfl, sz (by simp), ?_⟩
          exact fin _ _ (.tr ba bb) (Upto.refl _ _) B3 (Same.refl _) ⟨ba_ok, bb_ok⟩ (by simp [wtS]; omega) rfl (.cons (.str _) (.cons D1 (.cons D2 .nil)))
        refine ⟨_, rfl, rfl, _, rfl, ?_⟩
        refine ite2 (fun q14 => ?_) (fun q14 => ?_)
        · refine ⟨_, rfl, g, _, 0, _, rfl, rfl, SqL.of hg3, atI_nat (j := 0) rfl, sz (by simp), ?_⟩
          exact fin _ _ (.loop ba) (Upto.refl _ _) B3 (Same.refl _) ba_ok (by simp [wtS]; omega) rfl (.cons (.str _) (.cons D1 .nil))
        · refine ⟨_, rfl, g, _, rfl, .inl ⟨SqL.of hg3, fun q nq => ⟨sz (by simp), ?_⟩⟩⟩
          have st := Same.new (o := .tup (va :: vb :: vs)) nq
          exact fin _ _ (.ei (ba :: bb :: bs)) (Upto.refl _ _) B3 st ⟨by simp, hok⟩ (by simp [wtS, wtL]; omega) rfl (.cons (.str _) (.cons (.tup (SqT.of upd_same) (dtAll_stay (TStay.of st) _ _ (.cons D1 (.cons D2 D3)))) .nil))
theorem law_bodies (T : Txt K mg Z) : ∀ n, Cal P w K mg base (2 * n + 2) "_law_body" (spLBody K n) []
  | 0 => by
    exact c__law_body0 T
  | n + 1 => c__law_body T (by omega) (c__law_step T (by omega) (law_bodies T n))
end

/-! ### 9. the law's towers -/
section
variable {K : PySem.W.Frag} {H : Hp}
theorem dtAll_app : ∀ {vs us : List V} {ds es : List PyData}, DtAll K H vs ds → DtAll K H us es → DtAll K H (vs ++ us) (ds ++ es)
  | [], _, _, _, .nil, h => h
  | _ :: _, _, _, _, .cons a b, h => .cons a (dtAll_app b h)
theorem datL_app : ∀ (b c : List (List Stp)), datL (b ++ c) = datL b ++ datL c
  | [], _ => rfl
  | t :: b, c => congrArg (PyData.tuple (datB t) :: ·) (datL_app b c)
theorem wtL_app : ∀ (b c : List (List Stp)), wtL (b ++ c) = wtL b + wtL c
  | [], c => by simp [wtL]
  | t :: b, c => by
    show 1 + wtB t + wtL (b ++ c) = 1 + wtB t + wtL b + wtL c
    rw [wtL_app b c]
    omega
theorem dtAll_rep {v : V} {b : List Stp} (h : Dt K H v (.tuple (datB b))) : ∀ n, DtAll K H (List.replicate n v) (datL (List.replicate n b))
  | 0 => .nil
  | n + 1 => .cons h (dtAll_rep h n)
theorem wtL_rep (b : List Stp) : ∀ n, wtL (List.replicate n b) = n * (1 + wtB b)
  | 0 => by simp [wtL]
  | n + 1 => by
    show 1 + wtB b + wtL (List.replicate n b) = _
    rw [wtL_rep b n, Nat.succ_mul]
    omega
theorem flat_rep {v : V} : ∀ n, (List.replicate n [v]).flatten = List.replicate n v
  | 0 => rfl
  | n + 1 => congrArg (v :: ·) (flat_rep n)
theorem Dt.refd {v : V} {ds : List PyData} (h : Dt K H v (.tuple ds)) : ∃ a, v = .ref a := by
  cases h with
  | tup _ _ => exact ⟨_, rfl⟩
def failB : List Stp := [.bare (kw "fail")]
theorem fail_ok (n : Nat) : okK (n + 1) failB := fun s hs => by
  cases List.mem_singleton.mp hs
  exact .inr rfl
theorem nil_ok (n : Nat) : okK (n + 1) [] := fun s hs => absurd hs (List.not_mem_nil)
def spTower (K : PySem.W.Frag) : Sp := fun vs H Q _ => ∃ (b p0 : Addr) (v : V) (m k0 : Nat) (bd : List Stp) (n0 : List (List Nat)), vs = [.ref b, .ref p0, v, .int (m : Nat)] ∧ m ≤ 6 ∧ BagAt H b ∧ p0 ≠ b ∧ H p0 = some (.lst (txV n0)) ∧ okWs wordL n0 ∧ (1 ≤ n0.length ∧ n0.length ≤ 12) ∧
  okK (k0 + 1) bd ∧ Dt K H v (.tuple (datB bd)) ∧
  ∀ (v' : V) (bd' : List Stp) H', okK (k0 + 1 + m) bd' → Dt K H' v' (.tuple (datB bd')) → wtB bd' ≤ wtB bd + 10 * m → Upto b H H' → BagAt H' b → Q v' H'
end
section
variable {P : Program} {w : World} {K : PySem.W.Frag} {mg : Str → Option Value} {base : Heap} {Z : Addrs}
theorem TStay.bag {H H' : Hp} {b : Addr} (B : BagAt H b) (u : Upto b H H') : TStay H H' := by
  obtain ⟨xs, hb⟩ := B.lst
  exact TStay.two hb hb (Up2.of u)
theorem none_upto {b p : Addr} {H H1 : Hp} (u : Upto b H H1) (h : H1 p = none) (n : p ≠ b) : H p = none := by
  cases e : H p with
  | none => rfl
  | some o =>
    rw [u _ _ n e] at h
    cases h
theorem upto_new {b p : Addr} {H H1 : Hp} {o : HO} (u : Upto b H H1) (h : H1 p = none) : Upto b H (upd H1 p o) := u.trans (Upto.new h)
theorem c__law_tower (T : Txt K mg Z) : Cal P w K mg base 3 "_law_tower" (spTower K) [] := by
  have c__law_draw : Cal P w K mg base 1 "_law_draw" spDraw [] := c__law_draw T
  have c__law_one : Cal P w K mg base 2 "_law_one" (spOne K) [] := c__law_one T
  refine cal_of T.d__law_tower sc__law_tower (fun vs H Q E h => ?_) (fun f cdv A outer s H vs Q E hr h => ?_)
  · obtain ⟨b, p0, v, m, k0, bd, n0, rfl, _⟩ := h
    rfl
  · obtain ⟨b, p0, v, m, k0, bd, n0, rfl, hm, B, hp0, h0, o0, l0, hok, D, k⟩ := h
    refine ⟨_, (pss_cons (ps_for PassesOwn.never rfl (pi_range1 rfl T.b_range (pa_cons (pv 3) pa_nil)) (pg_name (i := 4) sc__law_tower.nd rfl (by first | exact Or.inl rfl | exact Or.inr rfl)) (pss_cons (ps_par (i := 5) (j := 6) (by rfl) sc__law_tower.nd rfl rfl (by decide) rfl rfl (pa_cons (pe_c c__law_draw hr (by omega) rfl (pa_cons (pv 0) (pa_cons pe_int pa_nil))) (pa_cons (pe_lst (pa_cons (pv 2) (pa_cons (pe_tup pa_nil) pa_nil))) pa_nil)) (by rfl))
      (C8.pss_cut (ps_if (pt_cmpR op_eq (pe_c c__law_draw hr (by omega) rfl (pa_cons (pv 0) (pa_cons pe_int pa_nil))) pe_int (nomark _)) (pss_one (ps_set (i := 6) sc__law_tower.nd rfl (by first | exact Or.inl rfl | exact Or.inr rfl) (pe_lst (pa_cons (pe_tup pa_nil) (pa_cons (pv 2) pa_nil))))) pss_nil)
      (C8.pss_cut (ps_if (pt_cmpR op_eq (pv 5) pe_int (nomark _)) (pss_one (ps_set (i := 7) sc__law_tower.nd rfl (by first | exact Or.inl rfl | exact Or.inr rfl) (pe_tup (pa_cons pe_str (pa_cons (pv 2) pa_nil))))) (pss_one (ps_if (pt_cmpR op_eq (pv 5) pe_int (nomark _)) (pss_one (ps_set (i := 7) sc__law_tower.nd rfl (by first | exact Or.inl rfl | exact Or.inr rfl) (pe_tup (pa_cons pe_str (pa_cons (pe_ix ix_list (pv 6) pe_int (fun _ _ => rfl)) (pa_cons (pe_ix ix_list (pv 6) pe_int (fun _ _ => rfl)) pa_nil)))))) (pss_one (ps_if (pt_cmpR op_eq (pv 5) pe_int (nomark _)) (pss_one (ps_set (i := 7) sc__law_tower.nd rfl (by first | exact Or.inl rfl | exact Or.inr rfl) (pe_tup (pa_cons pe_str (pa_cons (pe_c c__law_one hr (by omega) rfl (pa_cons (pv 0) (pa_cons (pv 1) pa_nil))) (pa_cons (pe_ix ix_list (pv 6) pe_int (fun _ _ => rfl)) (pa_cons (pe_ix ix_list (pv 6) pe_int (fun _ _ => rfl)) pa_nil))))))) (pss_cons (ps_set (i := 8) sc__law_tower.nd rfl (by first | exact Or.inl rfl | exact Or.inr rfl) (pe_op op_rep (pe_lst (pa_cons (pe_tup (pa_cons (pe_tup (pa_cons pe_str pa_nil)) pa_nil)) pa_nil)) (pe_op op_add pe_int (pe_c c__law_draw hr (by omega) rfl (pa_cons (pv 0) (pa_cons pe_int pa_nil))))))
      (pss_cons (ps_expr (pe_bm PySem.F.plainAttrs_list PySem.F.slot_list_insert PySem.F.type_list_insert mt_insert (pv 8) (pa_cons (pe_c c__law_draw hr (by omega) rfl (pa_cons (pv 0) (pa_cons (pe_op op_add (pe_callB call_len_seq (by rfl) T.b_len (by decide +kernel) (pa_cons (pv 8) pa_nil)) pe_int) pa_nil))) (pa_cons (pv 2) pa_nil))))
      (pss_one (ps_set (i := 7) sc__law_tower.nd rfl (by first | exact Or.inl rfl | exact Or.inr rfl) (pe_tup (pa_cons pe_str (pa_cons (pe_callTy call_tuple_of (by rfl) T.b_tuple (by decide +kernel) (pa_cons (pv 8) pa_nil)) pa_nil))))))))))))
      (pss_one (ps_set (i := 2) sc__law_tower.nd rfl (by first | exact Or.inl rfl | exact Or.inr rfl) (pe_op op_catT (pe_tup (pa_cons (pv 7) pa_nil)) (pe_op op_rep01 (pe_tup (pa_cons (pe_tup (pa_cons pe_str pa_nil)) pa_nil)) (pe_c c__law_draw hr (by omega) rfl (pa_cons (pv 0) (pa_cons pe_int pa_nil)))))))))))
      (pss_one (ps_ret (pv 2)))), ?_⟩
    refine ⟨_, rfl, _, rfl, by omega, by omega, ?_⟩
    refine for_it walk_range (fun i σ H1 => ∃ (v1 : V) (b1 : List Stp) (x4 x5 x6 x7 x8 : Option V), σ = [some (.ref b), some (.ref p0), some v1, some (.int (m : Nat)), x4, x5, x6, x7, x8] ∧ okK (k0 + 1 + i) b1 ∧ Dt K H1 v1 (.tuple (datB b1)) ∧ wtB b1 ≤ wtB bd + 10 * i ∧ Upto b H H1 ∧ BagAt H1 b)
      ⟨v, bd, none, none, none, none, none, rfl, hok, D, by omega, Upto.refl _ _, B⟩ (fun _ _ _ _ _ => trivial) ?_ ?_
    · rintro i x σ H0 H1 hi ⟨v1, b1, x4, x5, x6, x7, x8, rfl, ok1, D1, wt1, u1, B1⟩ ⟨rfl, rfl⟩
      have st1 : ∀ {H' : Hp}, Upto b H1 H' → H' p0 = some (.lst (txV n0)) := fun u => u _ _ hp0 (u1 _ _ hp0 h0)
      -- kind, pair
      refine ⟨_, rfl, b, 5, rfl, B1, by decide, lt9000 (by decide) (by decide), fun kd H3 k0' k1' u3 B3 => ?_⟩
      refine ⟨_, rfl, sz (by simp), fun e ne => ⟨sz (by simp), fun g ng => ⟨_, _, rfl, ?_⟩⟩⟩
      have s4 := (Same.new (o := .tup []) ne).trans (Same.new (o := .lst [v1, .ref e]) ng)
      have D4 : Dt K (upd (upd H3 e (.tup [])) g (.lst [v1, .ref e])) v1 (.tuple (datB b1)) := dt_stay ((TStay.bag B1 u3).trans (TStay.of s4)) _ _ D1
      have E4 : Dt K (upd (upd H3 e (.tup [])) g (.lst [v1, .ref e])) (.ref e) (.tuple (datB [])) := .tup (SqT.of ((Same.new ng) _ _ upd_same)) .nil
      have B4 : BagAt (upd (upd H3 e (.tup [])) g (.lst [v1, .ref e])) b := B3.same s4
      -- if draw: pair turned
      refine ⟨fun σ' H' => ∃ (g : Addr) (x y : V) (bx bb : List Stp), σ' = [some (.ref b), some (.ref p0), some v1, some (.int (m : Nat)), some (.int (0 + (i : Int))), some (.int kd), some (.ref g), x7, x8] ∧ g ≠ b ∧ H' g = some (.lst [x, y]) ∧ Dt K H' x (.tuple (datB bx)) ∧ Dt K H' y (.tuple (datB bb)) ∧
        okK (k0 + 1 + i) bx ∧ okK (k0 + 1 + i) bb ∧ wtB bx + wtB bb = wtB b1 ∧ Upto b H1 H' ∧ BagAt H' b ∧ Dt K H' v1 (.tuple (datB b1)), ?_, ?_⟩
      · refine ⟨_, rfl, b, 2, rfl, B4, by decide, lt9000 (by decide) (by decide), fun c H5 c0 c1 u5 B5 => ⟨rfl, _, rfl, ?_⟩⟩
        have D5 := dt_stay (TStay.bag B4 u5) _ _ D4
        have E5 := dt_stay (TStay.bag B4 u5) _ _ E4
        have nil_ok' : okK (k0 + 1 + i) [] := by rw [show k0 + 1 + i = (k0 + i) + 1 by omega]; exact nil_ok _
        refine ite2 (fun h1 => ?_) (fun h1 => ?_)
        · refine ⟨sz (by simp), fun e2 ne2 => ⟨_, rfl, sz (by simp), fun g2 ng2 => ?_⟩⟩
          have s6 := (Same.new (o := .tup []) ne2).trans (Same.new (o := .lst [.ref e2, v1]) ng2)
          exact ⟨g2, _, _, [], b1, rfl, bagNe (B5.same (Same.new ne2)) ng2, upd_same, .tup (SqT.of ((Same.new ng2) _ _ upd_same)) .nil, dt_stay (TStay.of s6) _ _ D5, nil_ok', ok1, by simp [wtB], u3.trans ((Upto.of s4).trans (u5.trans (Upto.of s6))), B5.same s6, dt_stay (TStay.of s6) _ _ D5⟩
        · refine ⟨g, _, _, b1, [], rfl, bagNe (B3.same (Same.new ne)) ng, u5 _ _ (bagNe (B3.same (Same.new ne)) ng) upd_same, D5, E5, ok1, nil_ok', by simp [wtB], u3.trans ((Upto.of s4).trans u5), B5, D5⟩
      rintro σ H5 ⟨g, x, y, bx, bb, rfl, gb, hg5, Dx, Dy, okx, oky, wxy, u5, B5, D5⟩
      -- step
      refine ⟨fun σ' H' => ∃ (vs : V) (s : Stp) (x8 : Option V), σ' = [some (.ref b), some (.ref p0), some v1, some (.int (m : Nat)), some (.int (0 + (i : Int))), some (.int kd), some (.ref g), some vs, x8] ∧ Dt K H' vs (datS s) ∧ okSt (okK (k0 + 1 + i)) s ∧ wtS s ≤ wtB b1 + 9 ∧ Upto b H1 H' ∧ BagAt H' b, ?_, ?_⟩
      · have sup : ∀ {H7 : Hp} {xs : List V} {ds : List PyData} {s : Stp} {y8 : Option V}, Upto b H1 H7 → BagAt H7 b → DtAll K H7 xs ds → datS s = .tuple ds → okSt (okK (k0 + 1 + i)) s → wtS s ≤ wtB b1 + 9 → ∀ q, H7 q = none →
            ∃ (vs : V) (s : Stp) (z8 : Option V), [some (.ref b), some (.ref p0), some v1, some (.int (m : Nat)), some (.int (0 + (i : Int))), some (.int kd), some (.ref g), some (V.ref q), y8] = [some (.ref b), some (.ref p0), some v1, some (.int (m : Nat)), some (.int (0 + (i : Int))), some (.int kd), some (.ref g), some vs, z8] ∧ Dt K (upd H7 q (.tup xs)) vs (datS s) ∧ okSt (okK (k0 + 1 + i)) s ∧ wtS s ≤ wtB b1 + 9 ∧ Upto b H1 (upd H7 q (.tup xs)) ∧ BagAt (upd H7 q (.tup xs)) b :=
          fun {H7 xs ds s y8} u B D e o w q nq => ⟨.ref q, s, y8, rfl, e ▸ .tup (SqT.of upd_same) (dtAll_stay (TStay.of (Same.new nq)) _ _ D), o, w, upto_new u nq, B.upd (bagNe B nq)⟩
        refine ⟨_, rfl, rfl, _, rfl, ?_⟩
        refine ite2 (fun _ => ?_) (fun _ => ?_)
        · refine ⟨_, rfl, sz (by simp), ?_⟩
          exact sup (s := .loop b1) u5 B5 (.cons (.str _) (.cons D5 .nil)) rfl ok1 (by simp [wtS]; omega)
        refine ⟨_, rfl, rfl, _, rfl, ?_⟩
        refine ite2 (fun _ => ?_) (fun _ => ?_)
        · refine ⟨_, rfl, g, _, 0, _, rfl, rfl, SqL.of hg5, atI_nat (j := 0) rfl, _, rfl, g, _, 1, _, rfl, rfl, SqL.of hg5, atI_nat (j := 1) rfl, sz (by simp), ?_⟩
          exact sup (s := .tr bx bb) u5 B5 (.cons (.str _) (.cons Dx (.cons Dy .nil))) rfl ⟨okx, oky⟩ (by simp [wtS]; omega)
        refine ⟨_, rfl, rfl, _, rfl, ?_⟩
        refine ite2 (fun _ => ?_) (fun _ => ?_)
        · refine ⟨_, rfl, _, rfl, b, p0, _, rfl, B5, hp0, st1 u5, by rw [txV_len]; omega, by rw [txV_len]; omega, fun v H7 hv u7 B7 => ?_⟩
          obtain ⟨a, ha, rfl⟩ := txV_mem hv
          have ts := TStay.bag B5 u7
          have hg7 := u7 _ _ gb hg5
          refine ⟨_, rfl, g, _, 0, _, rfl, rfl, SqL.of hg7, atI_nat (j := 0) rfl, _, rfl, g, _, 1, _, rfl, rfl, SqL.of hg7, atI_nat (j := 1) rfl, sz (by simp), ?_⟩
          exact sup (s := .iff a bx bb) (u5.trans u7) B7 (.cons (.str _) (.cons (.str _) (.cons (dt_stay ts _ _ Dx) (.cons (dt_stay ts _ _ Dy) .nil)))) rfl ⟨o0 a ha, okx, oky⟩ (by simp [wtS]; omega)
        refine ⟨sz (by simp), fun q1 n1 => ⟨sz (by simp), fun q2 n2 => ⟨sz (by simp), fun q3 n3 => ?_⟩⟩⟩
        have s3 := (Same.new (o := .tup [V.str "fail"]) n1).trans ((Same.new (o := .tup [V.ref q1]) n2).trans (Same.new (o := .lst [V.ref q2]) n3))
        have F3 : Dt K (upd (upd (upd H5 q1 (.tup [V.str "fail"])) q2 (.tup [V.ref q1])) q3 (.lst [V.ref q2])) (.ref q2) (.tuple (datB failB)) :=
          .tup (SqT.of ((Same.new n3) _ _ upd_same)) (.cons (.tup (SqT.of ((Same.new n2).trans (Same.new n3) _ _ upd_same)) (.cons (.str _) .nil)) .nil)
        refine ⟨_, rfl, b, 3, rfl, B5.same s3, by decide, lt9000 (by decide) (by decide), fun c H7 c0 c1 u7 B7 => ⟨_, _, rfl, rfl, q3, 1 + c, _, rfl, rfl, u7 _ _ (bagNe (B5.same ((Same.new n1).trans (Same.new n2))) n3) upd_same, by omega, by omega, ?_, fun q4 n4 => ?_⟩⟩
        · refine Nat.le_trans (by simp; omega : [V.ref q2].length * (1 + c).toNat ≤ 100) (by decide)
        rw [flat_rep]
        generalize hj : (1 + c).toNat = j
        have hj1 : 1 ≤ j ∧ j ≤ 3 := by omega
        have s8 := Same.new (o := .lst (List.replicate j (V.ref q2))) n4
        have B8 := B7.same s8
        have q4b : q4 ≠ b := bagNe B7 n4
        refine ⟨_, rfl, .inl ⟨rfl, _, SqL.of upd_same⟩, _, rfl, _, rfl, q4, _, rfl, .inl (SqL.of upd_same), _, _, rfl, rfl, b, _, rfl, B8, by omega, lt9000 (by omega) (by simp; omega), fun x H9 x0 x1 u9 B9 => ?_⟩
        have h9 := u9 _ _ q4b upd_same
        have F9 := dt_stay (((TStay.bag (B5.same s3) u7).trans (TStay.of s8)).trans (TStay.bag B8 u9)) _ _ F3
        have D9 := dt_stay (((TStay.of s3).trans (TStay.bag (B5.same s3) u7)).trans ((TStay.of s8).trans (TStay.bag B8 u9))) _ _ D5
        rw [List.length_replicate] at x1
        refine ⟨_, rfl, q4, _, x, v1, rfl, rfl, h9, by rw [List.length_replicate]; exact Nat.lt_of_le_of_lt hj1.2 (by decide), x0, by omega, ?_⟩
        have ts10 := TStay.lst (o := .lst (List.take x.toNat (List.replicate j (V.ref q2)) ++ [v1] ++ List.drop x.toNat (List.replicate j (V.ref q2)))) h9
        refine ⟨_, rfl, q4, _, rfl, .inl ⟨SqL.of upd_same, fun q5 n5 => ⟨sz (by simp), ?_⟩⟩⟩
        have s11 := Same.new (o := .tup (List.take x.toNat (List.replicate j (V.ref q2)) ++ [v1] ++ List.drop x.toNat (List.replicate j (V.ref q2)))) n5
        rw [List.take_replicate, List.drop_replicate] at *
        have F11 := dt_stay (TStay.trans ts10 (TStay.of s11)) _ _ F9
        have D11 := dt_stay (TStay.trans ts10 (TStay.of s11)) _ _ D9
        generalize ha : min x.toNat j = ja at *
        generalize hb : j - x.toNat = jb at *
        have hab : ja + jb ≤ 3 ∧ 1 ≤ ja + jb := by omega
        have nk : k0 + 1 + i = (k0 + i) + 1 := by omega
        refine sup (s := .ei (List.replicate ja failB ++ [b1] ++ List.replicate jb failB)) ((Upto.upd (((u5.trans (Upto.of s3)).trans (u7.trans (Upto.of s8))).trans u9) (none_upto ((u5.trans (Upto.of s3)).trans u7) n4 q4b)).trans (Upto.of s11)) ((B9.upd q4b).same s11) (.cons (.str _) (.cons (.tup (SqT.of upd_same) ?_) .nil)) rfl ⟨?_, ?_⟩ ?_
        · rw [datL_app, datL_app]
          exact dtAll_app (dtAll_app (dtAll_rep F11 ja) (.cons D11 .nil)) (dtAll_rep F11 jb)
        · simp
          omega
        · intro y hy
          simp only [List.mem_append, List.mem_replicate, List.mem_singleton] at hy
          rcases hy with (⟨_, rfl⟩ | rfl) | ⟨_, rfl⟩
          · rw [nk]
            exact fail_ok _
          · exact ok1
          · rw [nk]
            exact fail_ok _
        · rw [wtS, wtL_app, wtL_app, wtL_rep, wtL_rep]
          have : wtB failB = 1 := by simp [failB, wtB, wtS]
          rw [this]
          simp [wtL]
          omega
      rintro σ H6 ⟨vs, s, x8, rfl, Ds, oks, ws, u6, B6⟩
      refine ⟨_, rfl, sz (by simp), fun q1 n1 => ⟨sz (by simp), fun q2 n2 => ⟨sz (by simp), fun q3 n3 => ?_⟩⟩⟩
      have s3 := (Same.new (o := .tup [vs]) n1).trans ((Same.new (o := .tup [V.str "super"]) n2).trans (Same.new (o := .tup [V.ref q2]) n3))
      have hq1 := ((Same.new (o := .tup [V.str "super"]) n2).trans (Same.new (o := .tup [V.ref q2]) n3)) _ _ (upd_same (H := H6) (a := q1) (o := .tup [vs]))
      have hq2 := (Same.new (o := .tup [V.ref q2]) n3) _ _ (upd_same (H := upd H6 q1 (.tup [vs])) (a := q2) (o := .tup [V.str "super"]))
      have D3 := dt_stay (TStay.of s3) _ _ Ds
      refine ⟨_, rfl, b, 2, rfl, B6.same s3, by decide, lt9000 (by decide) (by decide), fun c H7 c0 c1 u7 B7 => ?_⟩
      have ts7 := TStay.bag (B6.same s3) u7
      have D7 := dt_stay ts7 _ _ D3
      have hq3 : SqT K H7 q3 [V.ref q2] := ts7.sq (SqT.of upd_same)
      have T1 : SqT K H7 q1 [vs] := ts7.sq (SqT.of hq1)
      have T2 : SqT K H7 q2 [V.str "super"] := ts7.sq (SqT.of hq2)
      have nk : k0 + 1 + (i + 1) = (k0 + 1 + i) + 1 := by omega
      have U7 := (u1.trans u6).trans ((Upto.of s3).trans u7)
      refine ⟨q3, c, _, rfl, rfl, hq3, (by simp), c0, by omega, fun e => ?_, fun e p hp => ?_⟩
      · refine ⟨q1, q3, _, _, rfl, rfl, T1, hq3, by simp, sz (by simp), fun e => absurd e (by simp), fun _ p hp => ?_⟩
        have s8 := Same.new (o := .tup ([vs] ++ [V.ref q2])) hp
        refine ⟨.ref p, [s, .bare (kw "super")], _, _, _, _, _, rfl, ?_, .tup (SqT.of upd_same) (.cons (dt_stay (TStay.of s8) _ _ D7) (.cons (.tup ((TStay.of s8).sq T2) (.cons (.str _) .nil)) .nil)), ?_, U7.trans (Upto.of s8), B7.same s8⟩
        · rw [nk]
          intro t ht
          simp only [List.mem_cons, List.not_mem_nil, or_false] at ht
          rcases ht with rfl | rfl
          · exact oks
          · exact .inl rfl
        · simp [wtB, wtS]
          omega
      · have s8 := Same.new (o := .tup []) hp
        refine ⟨q1, p, _, _, rfl, rfl, (TStay.of s8).sq T1, SqT.of upd_same, by simp, sz (by simp), fun _ => ?_, fun h => absurd rfl h⟩
        refine ⟨.ref q1, [s], _, _, _, _, _, rfl, ?_, .tup ((TStay.of s8).sq T1) (.cons (dt_stay (TStay.of s8) _ _ D7) .nil), ?_, U7.trans (Upto.of s8), B7.same s8⟩
        · rw [nk]
          intro t ht
          cases List.mem_singleton.mp ht
          exact oks
        · simp [wtB]
          omega
    · rintro σ H1 ⟨v1, b1, x4, x5, x6, x7, x8, rfl, ok1, D1, wt1, u1, B1⟩
      exact ⟨_, rfl, k v1 b1 _ ok1 D1 wt1 u1 B1⟩
end

/-! ### 10. canonical texts: the law's own writing -/
theorem asc_kw {x : Str} (h : (kw x).all (· < 128) = true) : Asc (kw x) := fun c hc => by simpa using List.all_eq_true.mp h c hc
theorem lay_app : ∀ {xs ys : List PyData}, PyData.canLayAll0 xs = true → PyData.canLayAll0 ys = true → PyData.canLayAll0 (xs ++ ys) = true
  | [], _, _, h => h
  | x :: xs, ys, h, k => by
    have h' : (PyData.canLay0 x && PyData.canLayAll0 xs) = true := h
    rw [Bool.and_eq_true] at h'
    show (PyData.canLay0 x && PyData.canLayAll0 (xs ++ ys)) = true
    rw [h'.1, lay_app h'.2 k]
    rfl
theorem with_asc {w : List Nat} (h : inV (.str (S w)) stepV = true) : Asc w := tok_asc (with_tok h)
theorem lay_tup {ds : List PyData} (h : PyData.canLayAll0 ds = true) : PyData.canLay0 (.tuple ds) = true := h
theorem lay_cons {d : PyData} {ds : List PyData} (h : PyData.canLay0 d = true) (k : PyData.canLayAll0 ds = true) : PyData.canLayAll0 (d :: ds) = true := by
  show (PyData.canLay0 d && PyData.canLayAll0 ds) = true
  rw [h, k]
  rfl
theorem lay_str {a : List Nat} (h : Asc a) : PyData.canLay0 (.str (S a)) = true := strOk_S h
theorem dep_tup {ds : List PyData} {n : Nat} (h : PyData.depthAll ds ≤ n) : PyData.depth (.tuple ds) ≤ n + 1 := by
  show PyData.depthAll ds + 1 ≤ n + 1
  omega
theorem dep_cons {d : PyData} {ds : List PyData} {n : Nat} (h : PyData.depth d ≤ n) (k : PyData.depthAll ds ≤ n) : PyData.depthAll (d :: ds) ≤ n := by
  show max (PyData.depth d) (PyData.depthAll ds) ≤ n
  omega
theorem dep_nil {n : Nat} : PyData.depthAll [] ≤ n := Nat.zero_le _
theorem dep_str {x : Str} {n : Nat} : PyData.depth (.str x) ≤ n := Nat.zero_le _
def LayK (okk : List Stp → Prop) (D : Nat) : Prop := ∀ b, okk b → PyData.canLayAll0 (datB b) = true ∧ PyData.depthAll (datB b) ≤ D
theorem layL {okk : List Stp → Prop} {D : Nat} (L : LayK okk D) : ∀ bs : List (List Stp), (∀ b ∈ bs, okk b) → PyData.canLayAll0 (datL bs) = true ∧ PyData.depthAll (datL bs) ≤ D + 1
  | [], _ => ⟨rfl, Nat.zero_le _⟩
  | b :: bs, h => by
    obtain ⟨h1, h2⟩ := L b (h b (by simp))
    obtain ⟨h3, h4⟩ := layL L bs fun c hc => h c (by simp [hc])
    exact ⟨lay_cons (lay_tup h1) h3, dep_cons (dep_tup h2) h4⟩
theorem layS {okk : List Stp → Prop} {D : Nat} (L : LayK okk D) (s : Stp) (h : okSt okk s) : PyData.canLay0 (datS s) = true ∧ PyData.depth (datS s) ≤ D + 3 := by
  have sk : ∀ {x : Str}, (kw x).all (· < 128) = true → PyData.canLay0 (.str x) = true := fun {x} h => by
    have := lay_str (asc_kw h)
    rwa [S_kw] at this
  cases s with
  | word w x => exact ⟨lay_tup (lay_cons (lay_str (with_asc (with_ne h.1).1)) (lay_cons (lay_str (tok_asc (word_tok h.2))) rfl)), dep_tup (dep_cons dep_str (dep_cons dep_str dep_nil))⟩
  | cls w x => exact ⟨lay_tup (lay_cons (lay_str (with_asc (class_ne h.1).1)) (lay_cons (lay_str (tok_asc (class_tok h.2))) rfl)), dep_tup (dep_cons dep_str (dep_cons dep_str dep_nil))⟩
  | bare w => exact ⟨lay_tup (lay_cons (lay_str (with_asc (bare_ne h).1)) rfl), dep_tup (dep_cons dep_str dep_nil)⟩
  | loop b =>
    obtain ⟨h1, h2⟩ := L b h
    exact ⟨lay_tup (lay_cons (sk (by decide +kernel)) (lay_cons (lay_tup h1) rfl)), dep_tup (dep_cons dep_str (dep_cons (Nat.le_trans (dep_tup h2) (by omega)) dep_nil))⟩
  | iff x a b =>
    obtain ⟨h1, h2⟩ := L a h.2.1
    obtain ⟨h3, h4⟩ := L b h.2.2
    exact ⟨lay_tup (lay_cons (sk (by decide +kernel)) (lay_cons (lay_str (tok_asc (word_tok h.1))) (lay_cons (lay_tup h1) (lay_cons (lay_tup h3) rfl)))), dep_tup (dep_cons dep_str (dep_cons dep_str (dep_cons (Nat.le_trans (dep_tup h2) (by omega)) (dep_cons (Nat.le_trans (dep_tup h4) (by omega)) dep_nil))))⟩
  | tr a b =>
    obtain ⟨h1, h2⟩ := L a h.1
    obtain ⟨h3, h4⟩ := L b h.2
    exact ⟨lay_tup (lay_cons (sk (by decide +kernel)) (lay_cons (lay_tup h1) (lay_cons (lay_tup h3) rfl))), dep_tup (dep_cons dep_str (dep_cons (Nat.le_trans (dep_tup h2) (by omega)) (dep_cons (Nat.le_trans (dep_tup h4) (by omega)) dep_nil)))⟩
  | ei bs =>
    obtain ⟨h1, h2⟩ := layL L bs h.2
    exact ⟨lay_tup (lay_cons (sk (by decide +kernel)) (lay_cons (lay_tup h1) rfl)), dep_tup (dep_cons dep_str (dep_cons (dep_tup h2) dep_nil))⟩
theorem layB {okk : List Stp → Prop} {D : Nat} (L : LayK okk D) : ∀ b : List Stp, (∀ s ∈ b, okSt okk s) → PyData.canLayAll0 (datB b) = true ∧ PyData.depthAll (datB b) ≤ D + 3
  | [], _ => ⟨rfl, Nat.zero_le _⟩
  | s :: b, h => by
    obtain ⟨h1, h2⟩ := layS L s (h s (by simp))
    obtain ⟨h3, h4⟩ := layB L b fun c hc => h c (by simp [hc])
    exact ⟨lay_cons h1 h3, dep_cons h2 h4⟩
theorem layN : ∀ n, LayK (okK n) (3 * n)
  | 0 => fun _ h => h.elim
  | n + 1 => fun b h => layB (layN n) b h
theorem shaped_body {n : Nat} {b : List Stp} (hn : n ≤ 20) (h : okK n b) : SeqAt.shaped (.tuple (datB b)) = true := by
  obtain ⟨h1, h2⟩ := layN n b h
  have e : PyData.canLay0 (.tuple (datB b)) = true := h1
  have e2 : PyData.depth (.tuple (datB b)) = PyData.depthAll (datB b) + 1 := rfl
  simp only [SeqAt.shaped, e, e2, Bool.true_and, decide_eq_true_eq]
  omega
theorem eqv_nil_body (b : List Stp) : PyData.eqv (.tuple (datB b)) (.tuple []) = b.isEmpty := by
  cases b <;> rfl
section
variable {P : Program} {w : World} {K : PySem.W.Frag} {mg : Str → Option Value} {base : Heap} {Z : Addrs}
theorem c__law_block0 (T : Txt K mg Z) : Cal P w K mg base 1 "_law_block" (spWK K (okK 0)) [] := by
  refine cal_of (k := 0) T.d__law_block sc__law_block (fun vs H Q E h => ?_) (fun f cdv A outer s H vs Q E hr h => ?_)
  · obtain ⟨v, b, rfl, _⟩ := h
    rfl
  · obtain ⟨v, b, rfl, _, h, _⟩ := h
    exact h.elim
theorem c__law_blockS (T : Txt K mg Z) {n l : Nat} (hn : n ≤ 10) (c__law_written : Cal P w K mg base l "_law_written" (spWB K (okK n)) []) : Cal P w K mg base (l + 1) "_law_block" (spWK K (okK (n + 1))) [] := by
  refine cal_of T.d__law_block sc__law_block (fun vs H Q E h => ?_) (fun f cdv A outer s H vs Q E hr h => ?_)
  · obtain ⟨v, b, rfl, _⟩ := h
    rfl
  · obtain ⟨v, b, rfl, D, hok, hl, k⟩ := h
    refine ⟨_, (pss_one (ps_ret (pe_ifExp (pt_cmpR (op_eqD hr.units) (pv 0) (pe_tup pa_nil) (nomark _)) pe_str (pe_op op_add_str (pe_op op_add_str pe_str (pe_c c__law_written hr (by omega) rfl (pa_cons (pv 0) pa_nil))) pe_str)))), ?_⟩
    refine ⟨_, rfl, by decide, fun e ne => ?_⟩
    have st := Same.new (o := .tup []) ne
    have D1 := dt_stay (TStay.of st) _ _ D
    refine ⟨_, _, D1.dp, .tup (SqT.of upd_same) .nil, shaped_body (by omega) hok, rfl, _, rfl, ?_⟩
    rw [eqv_nil_body]
    by_cases e : b = []
    · subst e
      refine iteT ?_
      have := k _ st
      rw [show S (blkT (wrL [])) = ("{ }" : Str) by decide +kernel] at this
      exact this
    · have ne' : b.isEmpty = false := by
        cases b with
        | nil => exact absurd rfl e
        | cons c b => rfl
      rw [ne']
      refine iteF ?_
      have hb : (wrB b).length ≤ 100000 := Nat.le_trans (blkT_len _) hl
      have ne : (wrL b).isEmpty = false := by
        cases b with
        | nil => exact absurd rfl e
        | cons c b => rfl
      have eT : blkT (wrL b) = kw "{ " ++ (wrB b ++ kw " }") := by
        unfold blkT
        rw [ne, if_neg Bool.false_ne_true]
        rfl
      have l1 : ("{ " : Str).length = 2 := by decide +kernel
      have l2 : (" }" : Str).length = 2 := by decide +kernel
      refine ⟨_, rfl, _, b, rfl, D1, hok, hb, fun H1 e1 => ⟨_, _, rfl, rfl, by rw [l1, S_len]; exact Nat.le_trans (by omega : 2 + (wrB b).length ≤ 100004) (by decide), _, _, rfl, rfl, ?_, ?_⟩⟩
      · rw [Str.length_append, l1, l2, S_len]
        refine Nat.le_trans (by omega : 2 + (wrB b).length + 2 ≤ 100004) (by decide)
      · have := k H1 (st.trans e1)
        rw [eT, ← S_cat, ← S_cat, S_kw, S_kw] at this
        have ea : ("{ " : Str) ++ (S (wrB b) ++ (" }" : Str)) = ("{ " : Str) ++ S (wrB b) ++ (" }" : Str) := by
          rw [← S_kw "{ ", ← S_kw " }", S_cat, S_cat, S_cat, S_cat, List.append_assoc]
        rw [ea] at this
        exact this
theorem dtAll_strs {H : Hp} : ∀ {ws : List (List Nat)} {vs : List V}, DtAll K H vs (strsD ws) → vs = txV ws
  | [], _, .nil => rfl
  | a :: ws, _, .cons h1 h2 => by
    cases h1
    rw [dtAll_strs h2]
    rfl
theorem dt_strs {H : Hp} {v : V} {ws : List (List Nat)} (h : Dt K H v (.tuple (strsD ws))) : ∃ q, v = .ref q ∧ SqT K H q (txV ws) := by
  cases h with
  | tup hs ha =>
    rw [dtAll_strs ha] at hs
    exact ⟨_, rfl, hs⟩
theorem step_kinds {okk : List Stp → Prop} {s : Stp} (h : okSt okk s) : (∃ wd r, datS s = .tuple (strsD (wd :: r)) ∧ wrS s = TL.joinL [32] (wd :: r) ++ [59] ∧ sgS s = (wd :: r) ++ [kw ";"] ∧ r.length ≤ 1 ∧ isW wd "loop" = false ∧ isW wd "if" = false ∧ isW wd "try" = false ∧ isW wd "either" = false) ∨
    (∃ b, s = .loop b) ∨ (∃ x a b, s = .iff x a b) ∨ (∃ a b, s = .tr a b) ∨ ∃ bs, s = .ei bs := by
  cases s with
  | word w x =>
    obtain ⟨_, n1, n2, n3, n4⟩ := with_ne h.1
    exact .inl ⟨w, [x], rfl, by simp [wrS, TL.joinL], rfl, by simp, n1, n2, n3, n4⟩
  | cls w x =>
    obtain ⟨_, n1, n2, n3, n4, _⟩ := class_ne h.1
    exact .inl ⟨w, [x], rfl, by simp [wrS, TL.joinL], rfl, by simp, n1, n2, n3, n4⟩
  | bare w =>
    obtain ⟨_, n1, n2, n3, n4, _⟩ := bare_ne h
    exact .inl ⟨w, [], rfl, by simp [wrS, TL.joinL], rfl, by simp, n1, n2, n3, n4⟩
  | loop b => exact .inr (.inl ⟨b, rfl⟩)
  | iff x a b => exact .inr (.inr (.inl ⟨x, a, b, rfl⟩))
  | tr a b => exact .inr (.inr (.inr (.inl ⟨a, b, rfl⟩)))
  | ei bs => exact .inr (.inr (.inr (.inr ⟨bs, rfl⟩)))
theorem join_len1 {s : Nat} (ws : List (List Nat)) : ((ws.map S).map fun x => x.length).sum + ws.length ≤ (TL.joinL [s] ws).length + 1 := by
  have := join_tot (s := [s]) ws
  simp only [List.length_singleton, Nat.mul_one] at this
  have e : ((ws.map S).map fun x => x.length) = ws.map (·.length) := by
    rw [List.map_map]
    exact List.map_congr_left fun a _ => S_len a
  rw [e]
  exact this
theorem wrL_le : ∀ (b : List Stp) (i : Nat) (s : Stp), b[i]? = some s → (wrS s).length ≤ (wrB b).length := fun b i s h => join_mem (s := [32]) (List.mem_of_getElem? (wrL_get h))
theorem c__law_written (T : Txt K mg Z) {okk : List Stp → Prop} {l : Nat} (c__law_block : Cal P w K mg base l "_law_block" (spWK K okk) []) : Cal P w K mg base (l + 1) "_law_written" (spWB K okk) [] := by
  refine cal_of T.d__law_written sc__law_written (fun vs H Q E h => ?_) (fun f cdv A outer s H vs Q E hr h => ?_)
  · obtain ⟨v, b, rfl, _⟩ := h
    rfl
  · obtain ⟨v, b, rfl, D, hok, hl, k⟩ := h
    cases D with
    | @tup p xs _ hT hA =>
      have lx := dtAll_len hA
      refine ⟨_, (pss_cons (ps_set (i := 1) sc__law_written.nd rfl (by first | exact Or.inl rfl | exact Or.inr rfl) (pe_lst pa_nil))
      (pss_cons (ps_for PassesOwn.never rfl (pi_tup (pv 0)) (pg_name (i := 2) sc__law_written.nd rfl (by first | exact Or.inl rfl | exact Or.inr rfl)) (pss_one (ps_if (pt_cmpR op_eq (pe_ix ix_tup (pv 2) pe_int (fun _ _ => rfl)) pe_str (nomark _)) (pss_one (ps_expr (pe_bm PySem.F.plainAttrs_list PySem.F.slot_list_append PySem.F.type_list_append mt_append (pv 1) (pa_cons (pe_op op_add_str pe_str (pe_c c__law_block hr (by omega) rfl (pa_cons (pe_ix ix_tup (pv 2) pe_int (fun _ _ => rfl)) pa_nil))) pa_nil)))) (pss_one (ps_if (pt_cmpR op_eq (pe_ix ix_tup (pv 2) pe_int (fun _ _ => rfl)) pe_str (nomark _)) (pss_cons (ps_set (i := 3) sc__law_written.nd rfl (by first | exact Or.inl rfl | exact Or.inr rfl) (pe_lst (pa_cons (pe_c c__law_block hr (by omega) rfl (pa_cons (pe_ix ix_tup (pv 2) pe_int (fun _ _ => rfl)) pa_nil)) (pa_cons (pe_c c__law_block hr (by omega) rfl (pa_cons (pe_ix ix_tup (pv 2) pe_int (fun _ _ => rfl)) pa_nil)) pa_nil))))
      (pss_one (ps_expr (pe_bm PySem.F.plainAttrs_list PySem.F.slot_list_append PySem.F.type_list_append mt_append (pv 1) (pa_cons (pe_op op_add_str (pe_op op_add_str (pe_op op_add_str pe_str (pe_ix ix_tup (pv 2) pe_int (fun _ _ => rfl))) pe_str) (pe_bm PySem.F.plainAttrs_str PySem.F.slot_str_join PySem.F.type_str_join mt_join pe_str (pa_cons (pv 3) pa_nil))) pa_nil))))) (pss_one (ps_if (pt_cmpR op_eq (pe_ix ix_tup (pv 2) pe_int (fun _ _ => rfl)) pe_str (nomark _)) (pss_one (ps_expr (pe_bm PySem.F.plainAttrs_list PySem.F.slot_list_append PySem.F.type_list_append mt_append (pv 1) (pa_cons (pe_op op_add_str pe_str (pe_bm PySem.F.plainAttrs_str PySem.F.slot_str_join PySem.F.type_str_join mt_join pe_str (pa_cons (pe_lst (pa_cons (pe_c c__law_block hr (by omega) rfl (pa_cons (pe_ix ix_tup (pv 2) pe_int (fun _ _ => rfl)) pa_nil)) (pa_cons (pe_c c__law_block hr (by omega) rfl (pa_cons (pe_ix ix_tup (pv 2) pe_int (fun _ _ => rfl)) pa_nil)) pa_nil))) pa_nil))) pa_nil)))) (pss_one (ps_if (pt_cmpR op_eq (pe_ix ix_tup (pv 2) pe_int (fun _ _ => rfl)) pe_str (nomark _)) (pss_one (ps_expr (pe_bm PySem.F.plainAttrs_list PySem.F.slot_list_append PySem.F.type_list_append mt_append (pv 1) (pa_cons (pe_op op_add_str pe_str (pe_bm PySem.F.plainAttrs_str PySem.F.slot_str_join PySem.F.type_str_join mt_join pe_str (pa_cons (pe_lc (own := [("block", 4)]) (g := gName 4) (tt := tYes) rfl sc__law_written.nd (pi_tup (pe_ix ix_tup (pv 2) pe_int (fun _ _ => rfl))) (blkOk_by (N := ["body", "found", "step", "both", "block"]) (sc := defScope s__law_written) (by decide +kernel)) (fun _ _ _ _ _ => (pg_name (i := 4) sc__law_written.nd rfl (by first | exact Or.inl rfl | exact Or.inr rfl))) (fun _ _ _ _ _ => pts_nil) (fun _ _ _ _ _ => (pe_c c__law_block hr (by omega) rfl (pa_cons (pv 4) pa_nil)))) pa_nil))) pa_nil)))) (pss_one (ps_expr (pe_bm PySem.F.plainAttrs_list PySem.F.slot_list_append PySem.F.type_list_append mt_append (pv 1) (pa_cons (pe_op op_add_str (pe_bm PySem.F.plainAttrs_str PySem.F.slot_str_join PySem.F.type_str_join mt_join pe_str (pa_cons (pe_callTy call_list_of (by rfl) T.b_list (by decide +kernel) (pa_cons (pv 2) pa_nil)) pa_nil)) pe_str) pa_nil)))))))))))))
      (pss_one (ps_ret (pe_bm PySem.F.plainAttrs_str PySem.F.slot_str_join PySem.F.type_str_join mt_join pe_str (pa_cons (pv 1) pa_nil)))))), ?_⟩
      have hTs : ∀ {H' : Hp}, Same H H' → SqT K H' p xs := fun e => (TStay.of e).sq hT
      have tot := join_tot (s := [32]) (wrL b)
      refine ⟨by decide, fun g ng => ⟨_, rfl, p, rfl, ⟨_, hTs (Same.new ng)⟩, ?_⟩⟩
      refine for_tup (fun i σ H1 => ∃ v2 v3 v4 : Option V, σ = [some (.ref p), some (.ref g), v2, v3, v4] ∧ Same H H1 ∧ H1 g = some (.lst (txV ((wrL b).take i)))) ⟨_, _, _, rfl, Same.new ng, upd_same⟩ (fun i σ H1 _ h => hTs h.choose_spec.choose_spec.choose_spec.2.1) ?_ ?_
      · rintro i x σ H1 hx ⟨v2, v3, v4, rfl, S1, hg1⟩
        obtain ⟨d, hd, Dx⟩ := dtAll_get hA hx
        obtain ⟨s, hs, rfl⟩ := datB_get hd
        have hos := hok s (List.mem_of_getElem? hs)
        have hm := wrL_le b i s hs
        have D1 := dt_stay (TStay.of S1) _ _ Dx
        have hg0 : H g = none := ng
        -- the step's text is put down
        have put : ∀ {H2 : Hp} {z2 z3 z4 : Option V}, Same H H2 → H2 g = some (.lst (txV ((wrL b).take i))) → ∃ v2 v3 v4 : Option V, [some (V.ref p), some (.ref g), z2, z3, z4] = [some (.ref p), some (.ref g), v2, v3, v4] ∧ Same H (upd H2 g (.lst (txV ((wrL b).take i) ++ [.str (S (wrS s))]))) ∧ (upd H2 g (.lst (txV ((wrL b).take i) ++ [.str (S (wrS s))]))) g = some (.lst (txV ((wrL b).take (i + 1)))) := fun {H2 z2 z3 z4} S2 hg => ⟨_, _, _, rfl, fun a o e => by
            rw [upd_ne (ne_of_none e hg0)]
            exact S2 _ _ e, by rw [upd_same, List.take_add_one, wrL_get hs]; simp [txV]⟩
        have hlt : (txV ((wrL b).take i)).length < sizeLine := by
          refine Nat.lt_of_le_of_lt ?_ (by decide : 100001 < sizeLine)
          have h1 : (wrL b).length ≤ (TL.joinL [32] (wrL b)).length + 1 := by
            simp only [List.length_cons, List.length_nil, Nat.zero_add, Nat.mul_one] at tot
            omega
          have h2 : (TL.joinL [32] (wrL b)).length ≤ 100000 := hl
          have h3 := List.length_take_le' i (wrL b)
          rw [txV_len]
          omega
        have hgl : SqL K H1 g (txV ((wrL b).take i)) := SqL.of hg1
        have lk : ∀ x : Str, (kw x).length = x.length := fun x => Array.length_toList
        have hl' : (wrS s).length ≤ 100000 := Nat.le_trans hm hl
        rcases step_kinds hos with ⟨wd, r, e1, e2, _, hr1, n1, n2, n3, n4⟩ | ⟨a, rfl⟩ | ⟨x', a, c, rfl⟩ | ⟨a, c, rfl⟩ | ⟨bs, rfl⟩
        · rw [e1] at D1
          obtain ⟨q, rfl, hq⟩ := dt_strs D1
          refine ⟨_, rfl, q, _, 0, _, rfl, rfl, hq, atI_nat (j := 0) rfl, rfl, _, rfl, iteN (notW n1) ?_⟩
          refine ⟨_, rfl, q, _, 0, _, rfl, rfl, hq, atI_nat (j := 0) rfl, rfl, _, rfl, iteN (notW n2) ?_⟩
          refine ⟨_, rfl, q, _, 0, _, rfl, rfl, hq, atI_nat (j := 0) rfl, rfl, _, rfl, iteN (notW n3) ?_⟩
          refine ⟨_, rfl, q, _, 0, _, rfl, rfl, hq, atI_nat (j := 0) rfl, rfl, _, rfl, iteN (notW n4) ?_⟩
          have e4 : (" " : Str) = S [32] := by decide +kernel
          have e5 : (";" : Str) = S [59] := by decide +kernel
          have jl := join_len1 (s := 32) (wd :: r)
          have jw : (wrS s).length = (TL.joinL [32] (wd :: r)).length + 1 := by rw [e2]; simp
          refine ⟨_, rfl, .inl ⟨rfl, _, hgl⟩, rfl, _, rfl, q, _, rfl, .inr hq, fun l nl => ⟨" ", l, (wd :: r).map S, rfl, rfl, .inl (SqL.of upd_same), ?_, _, _, rfl, rfl, ?_, ?_⟩⟩
          · rw [show (" " : Str).length = 1 by decide +kernel, Nat.mul_one, List.length_map]
            omega
          · rw [e4, SX.join_S, e5, S_len, S_len]
            exact sz (by simp; omega)
          · rw [e4, SX.join_S, e5, S_cat, ← e2]
            have st := Same.new (o := .lst (txV (wd :: r))) nl
            have hg2 := st _ _ hg1
            exact ⟨g, _, _, rfl, rfl, hg2, hlt, put (S1.trans st) hg2⟩
        · cases D1 with
          | @tup q ys _ hq hA1 =>
            cases hA1 with
            | cons h1 h2 => cases h2 with
              | @cons va _ _ _ h3 h4 =>
                cases h4
                cases h1
                have l1 : ("loop " : Str).length = 5 := by decide +kernel
                have lw : 5 + (blkT (wrL a)).length ≤ 100000 := by
                  have : (wrS (.loop a)).length = (kw "loop ").length + (blkT (wrL a)).length := by simp [wrS]
                  rw [this, lk, l1] at hl'
                  exact hl'
                have e : S (wrS (.loop a)) = ("loop " : Str) ++ S (blkT (wrL a)) := by rw [wrS, ← S_cat, S_kw]
                refine ⟨_, rfl, q, _, 0, _, rfl, rfl, hq, atI_nat (j := 0) rfl, rfl, _, rfl, iteY rfl ?_⟩
                refine ⟨_, rfl, .inl ⟨rfl, _, hgl⟩, _, rfl, q, _, 1, _, rfl, rfl, hq, atI_nat (j := 1) rfl, va, a, rfl, h3, hos, by omega, fun H2 e2 => ⟨_, _, rfl, rfl, by rw [l1, S_len]; exact sz lw, ?_⟩⟩
                rw [← e]
                exact ⟨g, _, _, rfl, rfl, e2 _ _ hg1, hlt, put (S1.trans e2) (e2 _ _ hg1)⟩
        · obtain ⟨o1, o2, o3⟩ := hos
          cases D1 with
          | @tup q ys _ hq hA1 =>
            cases hA1 with
            | cons h1 h2 => cases h2 with
              | cons h3 h4 => cases h4 with
                | @cons va _ _ _ h5 h6 => cases h6 with
                  | @cons vb _ _ _ h7 h8 =>
                    cases h8
                    cases h1
                    cases h3
                    have l1 : ("if " : Str).length = 3 := by decide +kernel
                    have l2 : (" else " : Str).length = 6 := by decide +kernel
                    have l3 : (" " : Str).length = 1 := by decide +kernel
                    have lw : 3 + x'.length + 1 + (blkT (wrL a)).length + 6 + (blkT (wrL c)).length ≤ 100000 := by
                      have : (wrS (.iff x' a c)).length = (kw "if ").length + x'.length + 1 + (blkT (wrL a)).length + (kw " else ").length + (blkT (wrL c)).length := by simp [wrS]; omega
                      rw [this, lk, lk, l1, l2] at hl'
                      exact hl'
                    have ej : Txt.join (" else " : Str) [S (blkT (wrL a)), S (blkT (wrL c))] = S (blkT (wrL a) ++ (kw " else " ++ blkT (wrL c))) := by
                      rw [← S_kw " else ", show [S (blkT (wrL a)), S (blkT (wrL c))] = [blkT (wrL a), blkT (wrL c)].map S from rfl, SX.join_S, S_kw]
                      simp [TL.joinL]
                    have e : S (wrS (.iff x' a c)) = (("if " : Str) ++ S x' ++ (" " : Str)) ++ Txt.join (" else " : Str) [S (blkT (wrL a)), S (blkT (wrL c))] := by
                      rw [ej, ← S_kw "if ", show (" " : Str) = S [32] by decide +kernel, S_cat, S_cat, S_cat]
                      simp [wrS]
                    refine ⟨_, rfl, q, _, 0, _, rfl, rfl, hq, atI_nat (j := 0) rfl, rfl, _, rfl, iteN (ne_str (by decide +kernel)) ?_⟩
                    refine ⟨_, rfl, q, _, 0, _, rfl, rfl, hq, atI_nat (j := 0) rfl, rfl, _, rfl, iteY rfl ?_⟩
                    refine ⟨_, rfl, q, _, 2, _, rfl, rfl, hq, atI_nat (j := 2) rfl, va, a, rfl, h5, o2, by omega, fun H2 e2 => ?_⟩
                    have hq2 := (TStay.of e2).sq hq
                    refine ⟨_, rfl, q, _, 3, _, rfl, rfl, hq2, atI_nat (j := 3) rfl, vb, c, rfl, dt_stay (TStay.of e2) _ _ h7, o3, by omega, fun H3 e3 => ⟨sz (by simp), fun bo nbo => ?_⟩⟩
                    have st := Same.new (o := .lst [V.str (S (blkT (wrL a))), V.str (S (blkT (wrL c)))]) nbo
                    have hq3 := (TStay.of (e3.trans st)).sq hq2
                    have hg3 := (e2.trans (e3.trans st)) _ _ hg1
                    refine ⟨_, rfl, .inl ⟨rfl, _, SqL.of hg3⟩, _, rfl, q, _, 1, _, rfl, rfl, hq3, atI_nat (j := 1) rfl, _, _, rfl, rfl, by rw [l1, S_len]; exact sz (by omega), _, _, rfl, rfl, by rw [Str.length_append, l1, l3, S_len]; exact sz (by omega), rfl, _, rfl, " else ", bo, [S (blkT (wrL a)), S (blkT (wrL c))], rfl, rfl, .inl (SqL.of upd_same), ?_, _, _, rfl, rfl, ?_, ?_⟩
                    · simp only [List.map_cons, List.map_nil, List.sum_cons, List.sum_nil, List.length_cons, List.length_nil, l2, S_len]
                      omega
                    · rw [ej, Str.length_append, Str.length_append, l1, l3, S_len, S_len]
                      exact sz (by simp [lk, l2]; omega)
                    · rw [← e]
                      exact ⟨g, _, _, rfl, rfl, hg3, hlt, put (S1.trans (e2.trans (e3.trans st))) hg3⟩
        · obtain ⟨o2, o3⟩ := hos
          cases D1 with
          | @tup q ys _ hq hA1 =>
            cases hA1 with
            | cons h1 h2 => cases h2 with
                | @cons va _ _ _ h5 h6 => cases h6 with
                  | @cons vb _ _ _ h7 h8 =>
                    cases h8
                    cases h1
                    have l1 : ("try " : Str).length = 4 := by decide +kernel
                    have l2 : (" catch " : Str).length = 7 := by decide +kernel
                    have lw : 4 + (blkT (wrL a)).length + 7 + (blkT (wrL c)).length ≤ 100000 := by
                      have : (wrS (.tr a c)).length = (kw "try ").length + (blkT (wrL a)).length + (kw " catch ").length + (blkT (wrL c)).length := by simp [wrS]; omega
                      rw [this, lk, lk, l1, l2] at hl'
                      exact hl'
                    have ej : Txt.join (" catch " : Str) [S (blkT (wrL a)), S (blkT (wrL c))] = S (blkT (wrL a) ++ (kw " catch " ++ blkT (wrL c))) := by
                      rw [← S_kw " catch ", show [S (blkT (wrL a)), S (blkT (wrL c))] = [blkT (wrL a), blkT (wrL c)].map S from rfl, SX.join_S, S_kw]
                      simp [TL.joinL]
                    have e : S (wrS (.tr a c)) = ("try " : Str) ++ Txt.join (" catch " : Str) [S (blkT (wrL a)), S (blkT (wrL c))] := by
                      rw [ej, ← S_kw "try ", S_cat]
                      simp [wrS]
                    refine ⟨_, rfl, q, _, 0, _, rfl, rfl, hq, atI_nat (j := 0) rfl, rfl, _, rfl, iteN (ne_str (by decide +kernel)) ?_⟩
                    refine ⟨_, rfl, q, _, 0, _, rfl, rfl, hq, atI_nat (j := 0) rfl, rfl, _, rfl, iteN (ne_str (by decide +kernel)) ?_⟩
                    refine ⟨_, rfl, q, _, 0, _, rfl, rfl, hq, atI_nat (j := 0) rfl, rfl, _, rfl, iteY rfl ?_⟩
                    refine ⟨_, rfl, .inl ⟨rfl, _, hgl⟩, rfl, _, rfl, q, _, 1, _, rfl, rfl, hq, atI_nat (j := 1) rfl, va, a, rfl, h5, o2, by omega, fun H2 e2 => ?_⟩
                    have hq2 := (TStay.of e2).sq hq
                    refine ⟨_, rfl, q, _, 2, _, rfl, rfl, hq2, atI_nat (j := 2) rfl, vb, c, rfl, dt_stay (TStay.of e2) _ _ h7, o3, by omega, fun H3 e3 => ⟨sz (by simp), fun bo nbo => ?_⟩⟩
                    have st := Same.new (o := .lst [V.str (S (blkT (wrL a))), V.str (S (blkT (wrL c)))]) nbo
                    have hg3 := (e2.trans (e3.trans st)) _ _ hg1
                    refine ⟨" catch ", bo, [S (blkT (wrL a)), S (blkT (wrL c))], rfl, rfl, .inl (SqL.of upd_same), ?_, _, _, rfl, rfl, ?_, ?_⟩
                    · simp only [List.map_cons, List.map_nil, List.sum_cons, List.sum_nil, List.length_cons, List.length_nil, l2, S_len]
                      omega
                    · rw [ej, l1, S_len]
                      exact sz (by simp [lk, l2]; omega)
                    · rw [← e]
                      exact ⟨g, _, _, rfl, rfl, hg3, hlt, put (S1.trans (e2.trans (e3.trans st))) hg3⟩
        · obtain ⟨o1, o2⟩ := hos
          cases D1 with
          | @tup q ys _ hq hA1 =>
            cases hA1 with
            | @cons v0 _ _ _ h1 h2 => cases h2 with
              | @cons vb _ _ _ h5 h6 =>
                cases h6
                cases h1
                cases h5 with
                | @tup q2 zs _ hU hB =>
                  have ly := dtAll_len hB
                  refine ⟨_, rfl, q, _, 0, _, rfl, rfl, hq, atI_nat (j := 0) rfl, rfl, _, rfl, iteN (ne_str (by decide +kernel)) ?_⟩
                  refine ⟨_, rfl, q, _, 0, _, rfl, rfl, hq, atI_nat (j := 0) rfl, rfl, _, rfl, iteN (ne_str (by decide +kernel)) ?_⟩
                  refine ⟨_, rfl, q, _, 0, _, rfl, rfl, hq, atI_nat (j := 0) rfl, rfl, _, rfl, iteN (ne_str (by decide +kernel)) ?_⟩
                  refine ⟨_, rfl, q, _, 0, _, rfl, rfl, hq, atI_nat (j := 0) rfl, rfl, _, rfl, iteY rfl ?_⟩
                  have l1 : ("either " : Str).length = 7 := by decide +kernel
                  have l2 : (" or " : Str).length = 4 := by decide +kernel
                  have lw : 7 + (TL.joinL (kw " or ") (wrK bs)).length ≤ 100000 := by
                    have : (wrS (.ei bs)).length = (kw "either ").length + (TL.joinL (kw " or ") (wrK bs)).length := by simp [wrS]
                    rw [this, lk, l1] at hl'
                    exact hl'
                  have tot2 := join_tot (s := kw " or ") (wrK bs)
                  rw [lk, l2] at tot2
                  refine ⟨_, rfl, .inl ⟨rfl, _, hgl⟩, rfl, _, rfl, q, _, 1, _, rfl, rfl, hq, atI_nat (j := 1) rfl, q2, rfl, ⟨_, hU⟩, fun D hD => ?_⟩
                  have hUs : ∀ {H' : Hp}, Same H1 H' → SqT K H' q2 zs := fun e => (TStay.of e).sq hU
                  refine lc_tup (xs := zs) (fun i H2 => Same H1 H2 ∧ H2 D = some (.lst (txV ((wrK bs).take i)))) ⟨Same.new hD, upd_same⟩ (fun i H1 _ h => hUs h.1) ?_ ?_
                  · rintro j y H2 hy ⟨S2, hD2⟩
                    obtain ⟨d2, hd2, Dy⟩ := dtAll_get hB hy
                    obtain ⟨bb, hbb, rfl⟩ := datL_get hd2
                    have hw := wrK_get hbb
                    have hm2 := join_mem (s := kw " or ") (List.mem_of_getElem? hw)
                    refine ⟨rfl, ?_⟩
                    refine iteT (B := Same H1 H2 ∧ H2 D = some (.lst (txV ((wrK bs).take (j + 1))))) ?_
                    refine ⟨_, rfl, y, bb, rfl, dt_stay (TStay.of S2) _ _ Dy, o2 bb (List.mem_of_getElem? hbb), by omega, fun H3 e3 => ⟨_, e3 _ _ hD2, ?_, ?_, ?_⟩⟩
                    · refine Nat.lt_of_le_of_lt ?_ (by decide : 100004 < sizeLine)
                      simp only [txV, List.length_map]
                      have h3 := List.length_take_le' j (wrK bs)
                      omega
                    · intro a o e
                      rw [upd_ne (ne_of_none e hD)]
                      exact e3 _ _ (S2 _ _ e)
                    · rw [upd_same, List.take_add_one, hw]
                      simp [txV]
                  · rintro H2 ⟨S2, hD2⟩
                    have e0 : (wrK bs).take zs.length = wrK bs := List.take_of_length_le (by rw [wrK_len, ly, datL_len]; exact Nat.le_refl _)
                    rw [e0] at hD2
                    have ej : Txt.join (" or " : Str) ((wrK bs).map S) = S (TL.joinL (kw " or ") (wrK bs)) := by
                      rw [← SX.join_S, S_kw]
                    have e : S (wrS (.ei bs)) = ("either " : Str) ++ Txt.join (" or " : Str) ((wrK bs).map S) := by rw [ej, wrS, ← S_cat, S_kw]
                    refine ⟨" or ", D, (wrK bs).map S, rfl, rfl, .inl (SqL.of hD2), ?_, _, _, rfl, rfl, ?_, ?_⟩
                    · rw [SX.lens, List.length_map, l2]
                      omega
                    · rw [ej, l1, S_len]
                      exact sz lw
                    · rw [← e]
                      exact ⟨g, _, _, rfl, rfl, S2 _ _ hg1, hlt, put (S1.trans S2) (S2 _ _ hg1)⟩
      · rintro σ H1 ⟨v2, v3, v4, rfl, S1, hg1⟩
        have e0 : (wrL b).take xs.length = wrL b := List.take_of_length_le (by rw [wrL_len, lx, datB_len]; exact Nat.le_refl _)
        rw [e0] at hg1
        have e4 : (" " : Str) = S [32] := by decide +kernel
        have jl := join_len1 (s := 32) (wrL b)
        have hb : (TL.joinL [32] (wrL b)).length ≤ 100000 := hl
        refine ⟨rfl, _, rfl, " ", g, (wrL b).map S, rfl, rfl, .inl (SqL.of hg1), ?_, ?_⟩
        · rw [show (" " : Str).length = 1 by decide +kernel, Nat.mul_one, List.length_map]
          omega
        · rw [e4, SX.join_S]
          exact k H1 S1
theorem law_writes (T : Txt K mg Z) : ∀ n, n ≤ 10 → Cal P w K mg base (2 * n + 1) "_law_block" (spWK K (okK n)) [] ∧ Cal P w K mg base (2 * n + 2) "_law_written" (spWB K (okK n)) []
  | 0, _ => by
    have c := c__law_block0 (P := P) (w := w) (base := base) T
    exact ⟨c, c__law_written T c⟩
  | n + 1, h => by
    obtain ⟨_, ih⟩ := law_writes T n (by omega)
    have c := c__law_blockS T (by omega) ih
    exact ⟨c, c__law_written T c⟩
end

/-! ### 11. enumerate over a tuple -/
section
set_option maxHeartbeats 8000000
/-- enumerate(v) with one argument, v told by how its iterator begins -/
theorem meets_enum1 {v : Value} {o : Obj} {G : Heap → Prop} (B : Begins v o G) :
    Meets (Builtin.«enumerate.__new__» ⟨[.type "enumerate", v], []⟩) (fun _ R s => G s.heap ∧
      R (.ok (.ret (.ref (s.heap.push o).objs.size))) { s with heap := (s.heap.push o).push { cls := .type "enumerate", data := .fields #[.none, .bool false, .ref s.heap.objs.size, rawInt 0, .none, .none] } }) :=
  .of_wp fun prog w A R s h => by
    obtain ⟨hp, g, d, tk, os⟩ := s
    obtain ⟨h1, h⟩ := h
    have hsub := sub_enumerate
    have q1 : ∀ {A' : Around} {E : Value → Shared → Prop} {Q : Value → Shared → Prop}, Q (.ref hp.objs.size) ⟨hp.push o, g, d, tk, os⟩ → wpAny (model prog w) A' (pyIter v) Q E ⟨hp, g, d, tk, os⟩ :=
      fun q => B.iter prog w _ _ ⟨hp, g, d, tk, os⟩ _ h1 q
    wp_walk using q1
    refine wpAny_stack_any fun st => wpAny_pure ?_
    split
    · rename_i c _ _ _ _ _
      cases (c == Value.type "enumerate")
      · wp_walk using q1
        exact ⟨_, rfl, h⟩
      · wp_walk using q1
        exact ⟨_, rfl, h⟩
    · wp_walk using q1
      exact ⟨_, rfl, h⟩
theorem call_enum1 {prog : Program} {w : World} {A : Around} {E : Value → Shared → Prop} {s : Shared} {v : Value} {o : Obj} {G : Heap → Prop} {Q : Value → Shared → Prop} (B : Begins v o G) (h1 : G s.heap)
    (h : ∀ h', IsEnum h' (s.heap.objs.size + 1) s.heap.objs.size 0 .none → h'.get? s.heap.objs.size = some o → (∀ b o, s.heap.get? b = some o → h'.get? b = some o) → Q (.ref (s.heap.objs.size + 1)) { s with heap := h' }) :
    wpAny (model prog w) A (call (.type "enumerate") [v]) Q E s := by
  refine callType_new F.called_enumerate (by decide) (F.typeCall_enumerate_1 _) (F.newCall_enumerate_1 _) (fun obj => F.args_object_init_2 obj _) F.entry_enumerate_new (meets_enum1 B) ⟨h1, ?_⟩
  have hz : (s.heap.push o).objs.size = s.heap.objs.size + 1 := Heap.size_push ..
  show _ ∧ _
  rw [hz]
  have he : IsEnum ((s.heap.push o).push { cls := .type "enumerate", data := .fields #[.none, .bool false, .ref s.heap.objs.size, rawInt 0, .none, .none] }) (s.heap.objs.size + 1) s.heap.objs.size 0 .none := by
    have := Heap.get?_push_size (s.heap.push o) (o := { cls := .type "enumerate", data := .fields #[.none, .bool false, .ref s.heap.objs.size, rawInt 0, .none, .none] }) rfl
    rw [hz] at this
    exact this
  exact ⟨⟨_, he, rfl⟩, h _ he (Heap.get?_push_of_some _ (Heap.get?_push_size _ B.free)) fun b o x => Heap.get?_push_of_some _ (Heap.get?_push_of_some _ x)⟩
/-- the pairs of a tuple's places and items, each pair new -/
def IteT (K : PySem.W.Frag) (a : Addr) : It :=
  ⟨fun i H => ∃ (xs : List V) (x : V), SqT K H a xs ∧ xs[i]? = some x, fun i H v H' => ∃ T x, v = .ref T ∧ H T = none ∧ H' = upd H T (.tup [.int (i : Nat), x]) ∧ ∀ xs, SqT K H a xs → xs[i]? = some x, fun i H => ∃ xs : List V, SqT K H a xs ∧ xs.length = i⟩
theorem walk_enumT {K : PySem.W.Frag} {a : Addr} {xs : List V} : Walk (IteT K a) xs.length (fun H => SqT K H a xs) (YPair (fun i => some (.int (i : Nat))) (fun i => xs[i]?)) := by
  refine ⟨fun i _ hi q => ⟨xs, xs[i], q, by simp [hi]⟩, fun _ q => ⟨xs, q, rfl⟩, fun i H v H' _ q y => ?_⟩
  obtain ⟨T, x, h1, h2, h3, h4⟩ := y
  exact ⟨T, .int (i : Nat), x, h1, h2, h3, rfl, h4 xs q⟩
theorem turn_enumT {P : Program} {w : World} {K : PySem.W.Frag} {elts : List Expr} {kk : Nat} {tpos : Pos} (a e it : Addr) :
    Turn P w K (.Tuple elts kk tpos) (IteT K a) [e, it] e (fun i h => (∃ old, IsEnum h e it ((i : Nat) : Int) old) ∧ h.IsTupleIter it a i ∧ e ≠ it) where
  mem := by simp
  obj := fun i h st b hb => by
    obtain ⟨⟨old, he⟩, ⟨o, ho, hc, hd⟩, _⟩ := st
    rcases (show b = e ∨ b = it by simpa using hb) with rfl | rfl
    · exact ⟨_, he, fun v q => nomatch q⟩
    · exact ⟨o, ho, fun v q => by rw [hd] at q; cases q⟩
  keep := fun i h h' st k => let ⟨⟨old, he⟩, hi, hne⟩ := st; ⟨⟨old, k e (by simp) _ he⟩, hi.at fun o q => k it (by simp) o q, hne⟩
  item := by
    intro X hP hw hK hc i pins s σ H E I hf st hg
    subst hP hw hK
    obtain ⟨⟨old, he⟩, hit, hne⟩ := st
    obtain ⟨xs, x, hq, hx⟩ := hg
    obtain ⟨its, rv, p, hz⟩ := I.tuple hq
    have p : s.heap.IsTuple a its.toArray := p
    obtain ⟨u, hu, ru⟩ := rv.get hx
    have hel : e < s.heap.objs.size := Heap.lt_size he
    have hil : it < s.heap.objs.size := by obtain ⟨_, q, _⟩ := hit; exact Heap.lt_size q
    have hai : a ≠ it := fun z => by
      subst z
      obtain ⟨o, h1, h2, _⟩ := p
      obtain ⟨o', h3, h4, _⟩ := hit
      rw [h1] at h3
      cases h3
      rw [h2] at h4
      exact absurd h4 (by decide)
    have hea : e ≠ a := fun z => by
      subst z
      obtain ⟨o, h1, h2, _⟩ := p
      rw [he] at h1
      cases h1
      have h2 : Value.type "enumerate" = Value.type "tuple" := h2
      exact absurd h2 (by decide)
    have D := Draws.tuple (prog := X.prog) (w := X.w) (A := X.A.in1) (show X.A.in1.handled = none from I.ok.hd hc) it a hai its.toArray
    have hlt : i < its.toArray.size := by
      have h1 : i < xs.length := (List.getElem?_eq_some_iff.mp hx).1
      rw [rv.length] at h1
      simpa using h1
    refine wpAny_pyNext_enum_itemD D he ⟨hit, p⟩ hlt hne (by simp [hne, hea]) fun y h' tk hP ho hit' hT hsz hk => ?_
    have hy : y = u := by
      have h1 : its[i]? = some y := by simpa using hP
      rw [hu] at h1
      exact (Option.some.inj h1).symm
    subst hy
    refine ⟨_, rfl, wpAny_letOwnedTupleGo_enum (s := { s with heap := h', toks := tk + 1 }) ho fun h'' he' sb => ?_⟩
    have hT2 : h''.get? s.heap.objs.size = some { cls := .type "tuple", data := .seq #[.int i tk, y] } := (sb.2 _ (Nat.ne_of_gt hel)).trans hT
    have new : ObjOk X.prog X.w (upd H s.heap.objs.size (.tup [.int (i : Nat), x])) h'' s.heap.objs.size (.tup [.int (i : Nat), x]) :=
      ⟨by show 2 ≤ sizeLine; decide, [.int i tk, y], .cons ⟨_, rfl⟩ (.cons ru .nil), ⟨_, hT2, rfl, _, rfl⟩⟩
    have I1 : Inv X pins σ (upd H s.heap.objs.size (.tup [.int (i : Nat), x])) { s with heap := h'', toks := tk + 1 } :=
      I.turnedNew (ch := [e, it]) (fun b ob hb q => (sb.2 b (fun z => hb (by simp [z]))).trans (hk b ob (fun z => hb (by simp [z])) (fun z => hb (by simp [z])) q)) hf (Nat.le_refl _) new
    refine ⟨.ref s.heap.objs.size, _, I1, rfl, ⟨_, x, rfl, I.hok.fresh (Nat.le_refl _), rfl, fun ys hy => by rw [I.tuple_inj hy hq]; exact hx⟩, ⟨⟨y, ?_⟩, hit'.1.at fun o q => (sb.2 it (Ne.symm hne)).trans q, hne⟩, fun b hb => ?_⟩
    · have e1 : ((i + 1 : Nat) : Int) = (i : Int) + 1 := by omega
      rw [e1]
      exact he'
    · have hb' : b < s.heap.objs.size := by
        rcases (show b = e ∨ b = it by simpa using hb) with rfl | rfl
        · exact hel
        · exact hil
      rw [upd_ne (Nat.ne_of_lt hb')]
      exact (hf b hb).1
  done := by
    intro X hP hw hK hc i pins s σ H E I hf st hg
    subst hP hw hK
    obtain ⟨⟨old, he⟩, hit, hne⟩ := st
    obtain ⟨xs, hq, hx⟩ := hg
    obtain ⟨its, rv, p, hz⟩ := I.tuple hq
    have p : s.heap.IsTuple a its.toArray := p
    have hai : a ≠ it := fun z => by
      subst z
      obtain ⟨o, h1, h2, _⟩ := p
      obtain ⟨o', h3, h4, _⟩ := hit
      rw [h1] at h3
      cases h3
      rw [h2] at h4
      exact absurd h4 (by decide)
    obtain ⟨f0, f1, f2, f3, f4, f5⟩ := hf it (by simp)
    have D := Draws.tuple (prog := X.prog) (w := X.w) (A := X.A.in1) (show X.A.in1.handled = none from I.ok.hd hc) it a hai its.toArray
    have hn : i = its.toArray.size := by
      rw [← hx, rv.length]
      simp
    subst hn
    exact wpAny_pyNext_enum_endD D he ⟨hit, p⟩ fun h' eb => ⟨rfl, I.turned (t' := s.toks) (fun b o hb q => eb b o hb q) f0 f1 f3 f4 f5⟩
  self := fun A i s Q E st h => let ⟨⟨_, he⟩, _⟩ := st; wpAny_pyIter_enum he h
def iEnumT (K : PySem.W.Frag) (ta : TA) : TI := fun σ H R => ta σ H fun vs H1 => ∃ a xs, vs = [.ref a] ∧ SqT K H1 a xs ∧ R (IteT K a) H1
theorem pi_enumT {X : Cx} {e : Expr} {ta : TA} {p pos tpos : Pos} {elts : List Expr} {kk : Nat} (hg : Gl X "enumerate") (hm : X.mg "enumerate" = none) (ha : PA X [e] ta) (hs : starEach [e] X.env = [(false, eval e X.env)] := by rfl) :
    PI X (.Tuple elts kk tpos) (.Call (.Name "enumerate" p) [e] [] pos) (iEnumT X.K ta) := by
  refine ⟨fun pins s σ H R I h => ?_⟩
  refine Call_ (ld_blt I hg hm boot_enumerate (PyProof.Rows.callWith_type1 (thn (ha.run pos pins s σ H _ I h) fun us s1 ⟨vs, H1, I1, r1, q1⟩ => ?_) hs rfl))
  obtain ⟨a, xs, ex, hq, q⟩ := q1
  subst ex
  cases r1 with
  | cons r rr =>
    cases rr
    cases r
    obtain ⟨its, rv, p', hz⟩ := I1.tuple hq
    refine call_enum1 (begins_tuple a its.toArray) p' fun h' he ho hk => wpAny_pyIter_enum he ?_
    have I2 : Inv X pins σ H1 { s1 with heap := h' } := I1.kept (t' := s1.toks) hk
    refine ⟨s1.heap.objs.size + 1, [s1.heap.objs.size + 1, s1.heap.objs.size], _, _, H1, rfl, I2, turn_enumT a (s1.heap.objs.size + 1) s1.heap.objs.size, ⟨⟨.none, he⟩, ⟨_, ho, rfl, rfl⟩, Nat.succ_ne_self _⟩, fun b hb => ?_, q⟩
    have hle : s1.heap.objs.size ≤ b := by
      rcases (show b = s1.heap.objs.size + 1 ∨ b = s1.heap.objs.size by simpa using hb) with z | z
      · rw [z]; exact Nat.le_add_right _ _
      · rw [z]; exact Nat.le_refl _
    exact I1.fpOk hle (I1.hok.fresh hle)
end

/-! ### 12. the law's signs -/
theorem txV_app (a b : List (List Nat)) : txV (a ++ b) = txV a ++ txV b := by simp [txV]
theorem sgB_app : ∀ a b : List Stp, sgB (a ++ b) = sgB a ++ sgB b
  | [], _ => rfl
  | s :: a, b => by
    show sgS s ++ sgB (a ++ b) = (sgS s ++ sgB a) ++ sgB b
    rw [sgB_app a b, List.append_assoc]
theorem sgB_take {b : List Stp} {i : Nat} {s : Stp} (h : b[i]? = some s) : sgB (b.take (i + 1)) = sgB (b.take i) ++ sgS s := by
  rw [List.take_add_one, h, sgB_app]
  simp [sgB]
theorem sgB_le (b : List Stp) (i : Nat) : (sgB (b.take i)).length ≤ (sgB b).length := by
  conv => rhs; rw [← List.take_append_drop i b, sgB_app, List.length_append]
  omega
theorem sgE_app : ∀ (f : Bool) (a b : List (List Stp)), sgE f (a ++ b) = sgE f a ++ sgE (f && a.isEmpty) b
  | f, [], b => by simp [sgE]
  | f, c :: a, b => by
    show (if f then kw "either" else kw "or") :: (kw "{" :: (sgB c ++ [kw "}"])) ++ sgE false (a ++ b) = _
    rw [sgE_app false a b]
    simp [sgE]
theorem sgE_take {b : List (List Stp)} {i : Nat} {s : List Stp} (h : b[i]? = some s) : sgE true (b.take (i + 1)) = sgE true (b.take i) ++ ((if i = 0 then kw "either" else kw "or") :: sgK s) := by
  rw [List.take_add_one, h, sgE_app]
  congr 1
  have hi : i < b.length := (List.getElem?_eq_some_iff.mp h).1
  have e : (b.take i).isEmpty = decide (i = 0) := by
    cases i with
    | zero => rfl
    | succ i =>
      cases b with
      | nil => simp at hi
      | cons c b => rfl
  rw [e]
  cases i with
  | zero => simp [sgE, sgK]
  | succ i => simp [sgE, sgK]
theorem sgE_le (b : List (List Stp)) (i : Nat) : (sgE true (b.take i)).length ≤ (sgE true b).length := by
  conv => rhs; rw [← List.take_append_drop i b, sgE_app, List.length_append]
  omega
section
variable {P : Program} {w : World} {K : PySem.W.Frag} {mg : Str → Option Value} {base : Heap} {Z : Addrs}
def spSg (K : PySem.W.Frag) (okk : List Stp → Prop) : Sp := fun vs H Q _ => ∃ v b, vs = [v] ∧ Dt K H v (.tuple (datB b)) ∧ (∀ s ∈ b, okSt okk s) ∧ (sgB b).length ≤ 100000 ∧ ∀ g H', H g = none → Same H H' → H' g = some (.lst (txV (sgB b))) → Q (.ref g) H'
def spCu (K : PySem.W.Frag) (okk : List Stp → Prop) : Sp := fun vs H Q _ => ∃ v b, vs = [v] ∧ Dt K H v (.tuple (datB b)) ∧ okk b ∧ (sgK b).length ≤ 100000 ∧ ∀ g H', H g = none → Same H H' → H' g = some (.lst (txV (sgK b))) → Q (.ref g) H'
theorem c__law_curly0 (T : Txt K mg Z) : Cal P w K mg base 1 "_law_curly" (spCu K (okK 0)) [] := by
  refine cal_of (k := 0) T.d__law_curly sc__law_curly (fun vs H Q E h => ?_) (fun f cdv A outer s H vs Q E hr h => ?_)
  · obtain ⟨v, b, rfl, _⟩ := h
    rfl
  · obtain ⟨v, b, rfl, _, h, _⟩ := h
    exact h.elim
theorem c__law_curlyS (T : Txt K mg Z) {n l : Nat} (c__law_signs : Cal P w K mg base l "_law_signs" (spSg K (okK n)) []) : Cal P w K mg base (l + 1) "_law_curly" (spCu K (okK (n + 1))) [] := by
  refine cal_of T.d__law_curly sc__law_curly (fun vs H Q E h => ?_) (fun f cdv A outer s H vs Q E hr h => ?_)
  · obtain ⟨v, b, rfl, _⟩ := h
    rfl
  · obtain ⟨v, b, rfl, D, hok, hl, k⟩ := h
    refine ⟨_, (pss_one (ps_ret (pe_op op_cat (pe_op op_cat (pe_lst (pa_cons pe_str pa_nil)) (pe_c c__law_signs hr (by omega) rfl (pa_cons (pv 0) pa_nil))) (pe_lst (pa_cons pe_str pa_nil))))), ?_⟩
    have hl2 : (sgB b).length + 2 ≤ 100000 := by
      simp only [sgK, List.length_cons, List.length_append, List.length_nil] at hl
      omega
    refine ⟨sz (by simp), fun q1 n1 => ⟨_, rfl, v, b, rfl, dt_stay (TStay.of (Same.new n1)) _ _ D, hok, by omega, fun g H1 ng e1 hg => ?_⟩⟩
    refine ⟨q1, g, _, _, rfl, rfl, e1 _ _ upd_same, hg, by rw [txV_len]; exact sz (by simp; omega), fun q2 n2 => ⟨sz (by simp), fun q3 n3 => ?_⟩⟩
    refine ⟨q2, q3, _, _, rfl, rfl, (Same.new n3) _ _ upd_same, upd_same, by rw [List.length_append, txV_len]; exact sz (by simp; omega), fun q4 n4 => ?_⟩
    have s1 := (Same.new (o := .lst [V.str "{"]) n1).trans e1
    have s4 := s1.trans ((Same.new (o := .lst ([V.str "{"] ++ txV (sgB b))) n2).trans ((Same.new (o := .lst [V.str "}"]) n3).trans (Same.new (o := .lst ([V.str "{"] ++ txV (sgB b) ++ [V.str "}"])) n4)))
    refine k q4 _ (((s1.trans ((Same.new n2).trans (Same.new n3)))).free n4) s4 ?_
    rw [upd_same, sgK, show kw "{" :: (sgB b ++ [kw "}"]) = [kw "{"] ++ sgB b ++ [kw "}"] by simp, txV_app, txV_app]
    rfl
theorem c__law_signs (T : Txt K mg Z) {okk : List Stp → Prop} {l : Nat} (c__law_curly : Cal P w K mg base l "_law_curly" (spCu K okk) []) : Cal P w K mg base (l + 1) "_law_signs" (spSg K okk) [] := by
  refine cal_of T.d__law_signs sc__law_signs (fun vs H Q E h => ?_) (fun f cdv A outer s H vs Q E hr h => ?_)
  · obtain ⟨v, b, rfl, _⟩ := h
    rfl
  · obtain ⟨v, b, rfl, D, hok, hl, k⟩ := h
    cases D with
    | @tup p xs _ hT hA =>
      have lx := dtAll_len hA
      refine ⟨_, (pss_cons (ps_set (i := 1) sc__law_signs.nd rfl (by first | exact Or.inl rfl | exact Or.inr rfl) (pe_lst pa_nil))
      (pss_cons (ps_for PassesOwn.never rfl (pi_tup (pv 0)) (pg_name (i := 2) sc__law_signs.nd rfl (by first | exact Or.inl rfl | exact Or.inr rfl)) (pss_one (ps_if (pt_cmpR op_eq (pe_ix ix_tup (pv 2) pe_int (fun _ _ => rfl)) pe_str (nomark _)) (pss_one (ps_expr (pe_bm PySem.F.plainAttrs_list PySem.F.slot_list_extend PySem.F.type_list_extend mt_extend (pv 1) (pa_cons (pe_op op_cat (pe_lst (pa_cons pe_str pa_nil)) (pe_c c__law_curly hr (by omega) rfl (pa_cons (pe_ix ix_tup (pv 2) pe_int (fun _ _ => rfl)) pa_nil))) pa_nil)))) (pss_one (ps_if (pt_cmpR op_eq (pe_ix ix_tup (pv 2) pe_int (fun _ _ => rfl)) pe_str (nomark _)) (pss_one (ps_expr (pe_bm PySem.F.plainAttrs_list PySem.F.slot_list_extend PySem.F.type_list_extend mt_extend (pv 1) (pa_cons (pe_op op_cat (pe_op op_cat (pe_op op_cat (pe_lst (pa_cons pe_str (pa_cons (pe_ix ix_tup (pv 2) pe_int (fun _ _ => rfl)) pa_nil))) (pe_c c__law_curly hr (by omega) rfl (pa_cons (pe_ix ix_tup (pv 2) pe_int (fun _ _ => rfl)) pa_nil))) (pe_lst (pa_cons pe_str pa_nil))) (pe_c c__law_curly hr (by omega) rfl (pa_cons (pe_ix ix_tup (pv 2) pe_int (fun _ _ => rfl)) pa_nil))) pa_nil)))) (pss_one (ps_if (pt_cmpR op_eq (pe_ix ix_tup (pv 2) pe_int (fun _ _ => rfl)) pe_str (nomark _)) (pss_one (ps_expr (pe_bm PySem.F.plainAttrs_list PySem.F.slot_list_extend PySem.F.type_list_extend mt_extend (pv 1) (pa_cons (pe_op op_cat (pe_op op_cat (pe_op op_cat (pe_lst (pa_cons pe_str pa_nil)) (pe_c c__law_curly hr (by omega) rfl (pa_cons (pe_ix ix_tup (pv 2) pe_int (fun _ _ => rfl)) pa_nil))) (pe_lst (pa_cons pe_str pa_nil))) (pe_c c__law_curly hr (by omega) rfl (pa_cons (pe_ix ix_tup (pv 2) pe_int (fun _ _ => rfl)) pa_nil))) pa_nil)))) (pss_one (ps_if (pt_cmpR op_eq (pe_ix ix_tup (pv 2) pe_int (fun _ _ => rfl)) pe_str (nomark _)) (pss_one (ps_for PassesOwn.never rfl (pi_enumT rfl T.b_enumerate (pa_cons (pe_ix ix_tup (pv 2) pe_int (fun _ _ => rfl)) pa_nil)) (pg_tup (by rfl) (pgs_cons (pg_name (i := 3) sc__law_signs.nd rfl (by first | exact Or.inl rfl | exact Or.inr rfl)) (pgs_cons (pg_name (i := 4) sc__law_signs.nd rfl (by first | exact Or.inl rfl | exact Or.inr rfl)) pgs_nil))) (pss_one (ps_expr (pe_bm PySem.F.plainAttrs_list PySem.F.slot_list_extend PySem.F.type_list_extend mt_extend (pv 1) (pa_cons (pe_op op_cat (pe_lst (pa_cons (pe_ifExp (pt_cmpR op_eq (pv 3) pe_int (nomark _)) pe_str pe_str) pa_nil)) (pe_c c__law_curly hr (by omega) rfl (pa_cons (pv 4) pa_nil))) pa_nil)))))) (pss_one (ps_expr (pe_bm PySem.F.plainAttrs_list PySem.F.slot_list_extend PySem.F.type_list_extend mt_extend (pv 1) (pa_cons (pe_op op_cat (pe_callTy call_list_of (by rfl) T.b_list (by decide +kernel) (pa_cons (pv 2) pa_nil)) (pe_lst (pa_cons pe_str pa_nil))) pa_nil)))))))))))))
      (pss_one (ps_ret (pv 1))))), ?_⟩
      have hTs : ∀ {H' : Hp}, Same H H' → SqT K H' p xs := fun e => (TStay.of e).sq hT
      refine ⟨by decide, fun g ng => ⟨_, rfl, p, rfl, ⟨_, hTs (Same.new ng)⟩, ?_⟩⟩
      refine for_tup (fun i σ H1 => ∃ v2 v3 v4 : Option V, σ = [some (.ref p), some (.ref g), v2, v3, v4] ∧ Same H H1 ∧ H1 g = some (.lst (txV (sgB (b.take i))))) ⟨_, _, _, rfl, Same.new ng, upd_same⟩ (fun i σ H1 _ h => hTs h.choose_spec.choose_spec.choose_spec.2.1) ?_ ?_
      · rintro i x σ H1 hx ⟨v2, v3, v4, rfl, S1, hg1⟩
        obtain ⟨d, hd, Dx⟩ := dtAll_get hA hx
        obtain ⟨s, hs, rfl⟩ := datB_get hd
        have hos := hok s (List.mem_of_getElem? hs)
        have D1 := dt_stay (TStay.of S1) _ _ Dx
        have hst := sgB_take hs
        have hle := sgB_le b (i + 1)
        rw [hst, List.length_append] at hle
        have put : ∀ {H2 : Hp} {z2 z3 z4 : Option V}, Same H H2 → ∃ v2 v3 v4 : Option V, [some (V.ref p), some (.ref g), z2, z3, z4] = [some (.ref p), some (.ref g), v2, v3, v4] ∧ Same H (upd H2 g (.lst (txV (sgB (b.take i)) ++ txV (sgS s)))) ∧ (upd H2 g (.lst (txV (sgB (b.take i)) ++ txV (sgS s)))) g = some (.lst (txV (sgB (b.take (i + 1))))) := fun {H2 z2 z3 z4} S2 => ⟨_, _, _, rfl, fun a o e => by
            rw [upd_ne (ne_of_none e ng)]
            exact S2 _ _ e, by rw [upd_same, hst, txV_app]⟩
        have hlen : (txV (sgB (b.take i))).length + (txV (sgS s)).length ≤ sizeLine := by
          rw [txV_len, txV_len]
          exact sz (by omega)
        rcases step_kinds hos with ⟨wd, r, e1, _, e2, hr1, n1, n2, n3, n4⟩ | ⟨a, rfl⟩ | ⟨x', a, c, rfl⟩ | ⟨a, c, rfl⟩ | ⟨bs, rfl⟩
        · rw [e1] at D1
          obtain ⟨q, rfl, hq⟩ := dt_strs D1
          refine ⟨_, rfl, q, _, 0, _, rfl, rfl, hq, atI_nat (j := 0) rfl, rfl, _, rfl, iteN (notW n1) ?_⟩
          refine ⟨_, rfl, q, _, 0, _, rfl, rfl, hq, atI_nat (j := 0) rfl, rfl, _, rfl, iteN (notW n2) ?_⟩
          refine ⟨_, rfl, q, _, 0, _, rfl, rfl, hq, atI_nat (j := 0) rfl, rfl, _, rfl, iteN (notW n3) ?_⟩
          refine ⟨_, rfl, q, _, 0, _, rfl, rfl, hq, atI_nat (j := 0) rfl, rfl, _, rfl, iteN (notW n4) ?_⟩
          refine ⟨_, rfl, .inl ⟨rfl, _, SqL.of hg1⟩, _, rfl, q, _, rfl, .inr hq, fun l nl => ⟨sz (by simp), fun l2 nl2 => ?_⟩⟩
          have st := (Same.new (o := .lst (txV (wd :: r))) nl).trans (Same.new (o := .lst [V.str ";"]) nl2)
          refine ⟨l, l2, _, _, rfl, rfl, (Same.new nl2) _ _ upd_same, upd_same, by rw [txV_len]; exact sz (by simp; omega), fun l3 nl3 => ?_⟩
          have st3 := st.trans (Same.new (o := .lst (txV (wd :: r) ++ [V.str ";"])) nl3)
          have e3 : txV (wd :: r) ++ [V.str ";"] = txV (sgS s) := by rw [e2, txV_app]; rfl
          rw [e3] at st3 ⊢
          exact ⟨g, l3, _, _, rfl, rfl, st3 _ _ hg1, upd_same, hlen, put (S1.trans st3)⟩
        · cases D1 with
          | @tup q ys _ hq hA1 =>
            cases hA1 with
            | cons h1 h2 => cases h2 with
              | @cons va _ _ _ h3 h4 =>
                cases h4
                cases h1
                have e3 : [V.str "loop"] ++ txV (sgK a) = txV (sgS (.loop a)) := by
                  rw [sgS, ← sgK]
                  rfl
                have lw : (sgK a).length + 1 ≤ 100000 := by
                  have : (sgS (.loop a)).length = (sgK a).length + 1 := by simp [sgS, sgK]
                  omega
                refine ⟨_, rfl, q, _, 0, _, rfl, rfl, hq, atI_nat (j := 0) rfl, rfl, _, rfl, iteY rfl ?_⟩
                refine ⟨_, rfl, .inl ⟨rfl, _, SqL.of hg1⟩, sz (by simp), fun l1 n1 => ?_⟩
                have t1 := Same.new (o := .lst [V.str "loop"]) n1
                refine ⟨_, rfl, q, _, 1, _, rfl, rfl, (TStay.of t1).sq hq, atI_nat (j := 1) rfl, va, a, rfl, dt_stay (TStay.of t1) _ _ h3, hos, by omega, fun l2 H2 n2 t2 h2 => ?_⟩
                refine ⟨l1, l2, _, _, rfl, rfl, t2 _ _ upd_same, h2, by rw [txV_len]; exact sz (by simp; omega), fun l3 n3 => ?_⟩
                rw [e3]
                have st := (t1.trans t2).trans (Same.new (o := .lst (txV (sgS (.loop a)))) n3)
                exact ⟨g, l3, _, _, rfl, rfl, st _ _ hg1, upd_same, hlen, put (S1.trans st)⟩
        · obtain ⟨o1, o2, o3⟩ := hos
          cases D1 with
          | @tup q ys _ hq hA1 =>
            cases hA1 with
            | cons h1 h2 => cases h2 with
              | cons h3 h4 => cases h4 with
                | @cons va _ _ _ h5 h6 => cases h6 with
                  | @cons vb _ _ _ h7 h8 =>
                    cases h8
                    cases h1
                    cases h3
                    have e3 : [V.str "if", V.str (S x')] ++ txV (sgK a) ++ [V.str "else"] ++ txV (sgK c) = txV (sgS (.iff x' a c)) := by
                      rw [sgS, ← sgK, ← sgK, show kw "if" :: x' :: sgK a ++ kw "else" :: sgK c = [kw "if", x'] ++ sgK a ++ [kw "else"] ++ sgK c by simp, txV_app, txV_app, txV_app]
                      rfl
                    have lw : (sgK a).length + (sgK c).length + 3 ≤ 100000 := by
                      have : (sgS (.iff x' a c)).length = (sgK a).length + (sgK c).length + 3 := by simp [sgS, sgK]; omega
                      omega
                    refine ⟨_, rfl, q, _, 0, _, rfl, rfl, hq, atI_nat (j := 0) rfl, rfl, _, rfl, iteN (ne_str (by decide +kernel)) ?_⟩
                    refine ⟨_, rfl, q, _, 0, _, rfl, rfl, hq, atI_nat (j := 0) rfl, rfl, _, rfl, iteY rfl ?_⟩
                    refine ⟨_, rfl, .inl ⟨rfl, _, SqL.of hg1⟩, _, rfl, q, _, 1, _, rfl, rfl, hq, atI_nat (j := 1) rfl, sz (by simp), fun l1 n1 => ?_⟩
                    have t1 := Same.new (o := .lst [V.str "if", V.str (S x')]) n1
                    refine ⟨_, rfl, q, _, 2, _, rfl, rfl, (TStay.of t1).sq hq, atI_nat (j := 2) rfl, va, a, rfl, dt_stay (TStay.of t1) _ _ h5, o2, by omega, fun l2 H2 n2 t2 h2 => ?_⟩
                    refine ⟨l1, l2, _, _, rfl, rfl, t2 _ _ upd_same, h2, by rw [txV_len]; exact sz (by simp; omega), fun l3 n3 => ⟨sz (by simp), fun l4 n4 => ?_⟩⟩
                    have t4 := (Same.new (o := .lst ([V.str "if", V.str (S x')] ++ txV (sgK a))) n3).trans (Same.new (o := .lst [V.str "else"]) n4)
                    refine ⟨l3, l4, _, _, rfl, rfl, (Same.new n4) _ _ upd_same, upd_same, by rw [List.length_append, txV_len]; exact sz (by simp; omega), fun l5 n5 => ?_⟩
                    have t5 := (t1.trans t2).trans (t4.trans (Same.new (o := .lst ([V.str "if", V.str (S x')] ++ txV (sgK a) ++ [V.str "else"])) n5))
                    refine ⟨_, rfl, q, _, 3, _, rfl, rfl, (TStay.of t5).sq hq, atI_nat (j := 3) rfl, vb, c, rfl, dt_stay (TStay.of t5) _ _ h7, o3, by omega, fun l6 H6 n6 t6 h6 => ?_⟩
                    refine ⟨l5, l6, _, _, rfl, rfl, t6 _ _ upd_same, h6, by rw [List.length_append, List.length_append, txV_len, txV_len]; exact sz (by simp; omega), fun l7 n7 => ?_⟩
                    rw [e3]
                    have st := (t5.trans t6).trans (Same.new (o := .lst (txV (sgS (.iff x' a c)))) n7)
                    exact ⟨g, l7, _, _, rfl, rfl, st _ _ hg1, upd_same, hlen, put (S1.trans st)⟩
        · obtain ⟨o2, o3⟩ := hos
          cases D1 with
          | @tup q ys _ hq hA1 =>
            cases hA1 with
            | cons h1 h2 => cases h2 with
                | @cons va _ _ _ h5 h6 => cases h6 with
                  | @cons vb _ _ _ h7 h8 =>
                    cases h8
                    cases h1
                    have e3 : [V.str "try"] ++ txV (sgK a) ++ [V.str "catch"] ++ txV (sgK c) = txV (sgS (.tr a c)) := by
                      rw [sgS, ← sgK, ← sgK, show kw "try" :: sgK a ++ kw "catch" :: sgK c = [kw "try"] ++ sgK a ++ [kw "catch"] ++ sgK c by simp, txV_app, txV_app, txV_app]
                      rfl
                    have lw : (sgK a).length + (sgK c).length + 2 ≤ 100000 := by
                      have : (sgS (.tr a c)).length = (sgK a).length + (sgK c).length + 2 := by simp [sgS, sgK]; omega
                      omega
                    refine ⟨_, rfl, q, _, 0, _, rfl, rfl, hq, atI_nat (j := 0) rfl, rfl, _, rfl, iteN (ne_str (by decide +kernel)) ?_⟩
                    refine ⟨_, rfl, q, _, 0, _, rfl, rfl, hq, atI_nat (j := 0) rfl, rfl, _, rfl, iteN (ne_str (by decide +kernel)) ?_⟩
                    refine ⟨_, rfl, q, _, 0, _, rfl, rfl, hq, atI_nat (j := 0) rfl, rfl, _, rfl, iteY rfl ?_⟩
                    refine ⟨_, rfl, .inl ⟨rfl, _, SqL.of hg1⟩, sz (by simp), fun l1 n1 => ?_⟩
                    have t1 := Same.new (o := .lst [V.str "try"]) n1
                    refine ⟨_, rfl, q, _, 1, _, rfl, rfl, (TStay.of t1).sq hq, atI_nat (j := 1) rfl, va, a, rfl, dt_stay (TStay.of t1) _ _ h5, o2, by omega, fun l2 H2 n2 t2 h2 => ?_⟩
                    refine ⟨l1, l2, _, _, rfl, rfl, t2 _ _ upd_same, h2, by rw [txV_len]; exact sz (by simp; omega), fun l3 n3 => ⟨sz (by simp), fun l4 n4 => ?_⟩⟩
                    have t4 := (Same.new (o := .lst ([V.str "try"] ++ txV (sgK a))) n3).trans (Same.new (o := .lst [V.str "catch"]) n4)
                    refine ⟨l3, l4, _, _, rfl, rfl, (Same.new n4) _ _ upd_same, upd_same, by rw [List.length_append, txV_len]; exact sz (by simp; omega), fun l5 n5 => ?_⟩
                    have t5 := (t1.trans t2).trans (t4.trans (Same.new (o := .lst ([V.str "try"] ++ txV (sgK a) ++ [V.str "catch"])) n5))
                    refine ⟨_, rfl, q, _, 2, _, rfl, rfl, (TStay.of t5).sq hq, atI_nat (j := 2) rfl, vb, c, rfl, dt_stay (TStay.of t5) _ _ h7, o3, by omega, fun l6 H6 n6 t6 h6 => ?_⟩
                    refine ⟨l5, l6, _, _, rfl, rfl, t6 _ _ upd_same, h6, by rw [List.length_append, List.length_append, txV_len, txV_len]; exact sz (by simp; omega), fun l7 n7 => ?_⟩
                    rw [e3]
                    have st := (t5.trans t6).trans (Same.new (o := .lst (txV (sgS (.tr a c)))) n7)
                    exact ⟨g, l7, _, _, rfl, rfl, st _ _ hg1, upd_same, hlen, put (S1.trans st)⟩
        · obtain ⟨o1, o2⟩ := hos
          cases D1 with
          | @tup q ys _ hq hA1 =>
            cases hA1 with
            | @cons v0 _ _ _ h1 h2 => cases h2 with
              | @cons vb _ _ _ h5 h6 =>
                cases h6
                cases h1
                cases h5 with
                | @tup q2 zs _ hU hB =>
                  have ly := dtAll_len hB
                  have lz : zs.length = bs.length := by rw [ly, datL_len]
                  have eS : sgS (.ei bs) = sgE true bs := by rw [sgS]
                  rw [eS] at hst hle hlen put
                  refine ⟨_, rfl, q, _, 0, _, rfl, rfl, hq, atI_nat (j := 0) rfl, rfl, _, rfl, iteN (ne_str (by decide +kernel)) ?_⟩
                  refine ⟨_, rfl, q, _, 0, _, rfl, rfl, hq, atI_nat (j := 0) rfl, rfl, _, rfl, iteN (ne_str (by decide +kernel)) ?_⟩
                  refine ⟨_, rfl, q, _, 0, _, rfl, rfl, hq, atI_nat (j := 0) rfl, rfl, _, rfl, iteN (ne_str (by decide +kernel)) ?_⟩
                  refine ⟨_, rfl, q, _, 0, _, rfl, rfl, hq, atI_nat (j := 0) rfl, rfl, _, rfl, iteY rfl ?_⟩
                  refine ⟨_, rfl, q, _, 1, _, rfl, rfl, hq, atI_nat (j := 1) rfl, q2, zs, rfl, hU, for_it walk_enumT (fun j σ H2 => ∃ v3 v4 : Option V, σ = [some (.ref p), some (.ref g), some (.ref q), v3, v4] ∧ Same H H2 ∧ TStay H1 H2 ∧ H2 g = some (.lst (txV (sgB (b.take i)) ++ txV (sgE true (bs.take j)))))
                    ⟨_, _, rfl, S1, ⟨fun _ _ h => h, fun _ _ _ h => h⟩, by rw [hg1]; simp [sgE, txV]⟩ (fun _ _ _ _ h => h.choose_spec.choose_spec.2.2.1.sq hU) ?_ ?_⟩
                  · rintro j y σ H2 H3 hj ⟨v3, v4, rfl, S2, ts2, hg2⟩ ⟨T0, y1, y2, rfl, hT0, rfl, q1, q2'⟩
                    cases q1
                    obtain ⟨d2, hd2, Dy⟩ := dtAll_get hB q2'
                    obtain ⟨bb, hbb, rfl⟩ := datL_get hd2
                    have Dy := dt_stay ts2 _ _ Dy
                    have hE := sgE_take hbb
                    have hEl := sgE_le bs (j + 1)
                    rw [hE, List.length_append, List.length_cons] at hEl
                    have t3 := Same.new (o := .tup [V.int (j : Nat), y2]) hT0
                    refine ⟨T0, _, rfl, SqT.of upd_same, rfl, _, _, rfl, _, _, rfl, rfl, ?_⟩
                    refine ⟨_, rfl, .inl ⟨rfl, _, SqL.of (t3 _ _ hg2)⟩, _, rfl, rfl, _, rfl, ?_⟩
                    refine ite2 (fun hz => ?_) (fun hz => ?_)
                    · have hz' : j = 0 := by
                        have := V.int.inj (of_decide_eq_true hz)
                        omega
                      have hj0 : (if j = 0 then kw "either" else kw "or") = kw "either" := if_pos hz'
                      refine ⟨sz (by simp), fun l1 n1 => ?_⟩
                      have t1 := Same.new (o := .lst [V.str "either"]) n1
                      refine ⟨_, rfl, y2, bb, rfl, dt_stay (TStay.of (t3.trans t1)) _ _ Dy, o2 bb (List.mem_of_getElem? hbb), by omega, fun l2 H5 n2 t2 h2 => ?_⟩
                      refine ⟨l1, l2, _, _, rfl, rfl, t2 _ _ upd_same, h2, by rw [txV_len]; exact sz (by simp; omega), fun l3 n3 => ?_⟩
                      have st := (t3.trans t1).trans (t2.trans (Same.new (o := .lst ([V.str "either"] ++ txV (sgK bb))) n3))
                      have hg5 := st _ _ hg2
                      refine ⟨g, l3, _, _, rfl, rfl, hg5, upd_same, ?_, _, _, rfl, fun a o e => ?_, TStay.trans ts2 (TStay.trans (TStay.of st) (TStay.lst hg5)), ?_⟩
                      · rw [List.length_append, List.length_append, txV_len, txV_len, txV_len]
                        exact sz (by simp; omega)
                      · rw [upd_ne (ne_of_none e ng)]
                        exact st _ _ (S2 _ _ e)
                      · rw [upd_same, hE, txV_app, hj0, List.append_assoc]
                        rfl
                    · have hz' : ¬ j = 0 := fun e => by
                        subst e
                        exact hz (by decide)
                      have hj0 : (if j = 0 then kw "either" else kw "or") = kw "or" := if_neg hz'
                      refine ⟨sz (by simp), fun l1 n1 => ?_⟩
                      have t1 := Same.new (o := .lst [V.str "or"]) n1
                      refine ⟨_, rfl, y2, bb, rfl, dt_stay (TStay.of (t3.trans t1)) _ _ Dy, o2 bb (List.mem_of_getElem? hbb), by omega, fun l2 H5 n2 t2 h2 => ?_⟩
                      refine ⟨l1, l2, _, _, rfl, rfl, t2 _ _ upd_same, h2, by rw [txV_len]; exact sz (by simp; omega), fun l3 n3 => ?_⟩
                      have st := (t3.trans t1).trans (t2.trans (Same.new (o := .lst ([V.str "or"] ++ txV (sgK bb))) n3))
                      have hg5 := st _ _ hg2
                      refine ⟨g, l3, _, _, rfl, rfl, hg5, upd_same, ?_, _, _, rfl, fun a o e => ?_, TStay.trans ts2 (TStay.trans (TStay.of st) (TStay.lst hg5)), ?_⟩
                      · rw [List.length_append, List.length_append, txV_len, txV_len, txV_len]
                        exact sz (by simp; omega)
                      · rw [upd_ne (ne_of_none e ng)]
                        exact st _ _ (S2 _ _ e)
                      · rw [upd_same, hE, txV_app, hj0, List.append_assoc]
                        rfl
                  · rintro σ H2 ⟨v3, v4, rfl, S2, ts2, hg2⟩
                    have e0 : bs.take zs.length = bs := List.take_of_length_le (by rw [lz]; exact Nat.le_refl _)
                    rw [e0] at hg2
                    exact ⟨_, _, _, rfl, S2, by rw [hg2, hst, txV_app]⟩
      · rintro σ H1 ⟨v2, v3, v4, rfl, S1, hg1⟩
        have e0 : b.take xs.length = b := List.take_of_length_le (by rw [lx, datB_len]; exact Nat.le_refl _)
        rw [e0] at hg1
        exact ⟨_, rfl, k g H1 ng S1 hg1⟩
theorem law_signs (T : Txt K mg Z) : ∀ n, Cal P w K mg base (2 * n + 1) "_law_curly" (spCu K (okK n)) [] ∧ Cal P w K mg base (2 * n + 2) "_law_signs" (spSg K (okK n)) []
  | 0 => by
    have c := c__law_curly0 (P := P) (w := w) (base := base) T
    exact ⟨c, c__law_signs T c⟩
  | n + 1 => by
    obtain ⟨_, ih⟩ := law_signs T n
    have c := c__law_curlyS T ih
    exact ⟨c, c__law_signs T c⟩
end

/-! ### 13. the law's spreading of the signs -/
def EndL (a : List Nat) : Prop := ∃ c, a.getLast? = some c ∧ isL c = true
def Pre (a : List Nat) (us : List (List Nat)) : Prop := ∀ l r, Spells l r → (EndL a → NoL l) → Spells (a ++ l) (us ++ r)
theorem isL_alpha : ∀ c, c < 128 → isL c = true → Unicode.isAlpha c = true := by decide +kernel
theorem alpha_S {t : List Nat} (hn : t ≠ []) (h : ∀ x ∈ t, isL x = true) : Txt.isalpha (S t) = true := by
  unfold Txt.isalpha
  rw [Bool.and_eq_true]
  refine ⟨?_, ?_⟩
  · rw [S_len, decide_eq_true_eq]
    exact List.length_pos_iff.mpr hn
  · rw [Array.all_eq_true_iff_forall_mem]
    intro c hc
    have hc : c ∈ t := by simpa using hc
    exact isL_alpha c (isL_lt (h c hc)) (h c hc)
theorem endL_nil : ¬ EndL [] := fun ⟨_, h, _⟩ => by cases h
theorem endL_bl {a g : List Nat} (hg : g ≠ []) (hb : ∀ c ∈ g, blC c = true) : ¬ EndL (a ++ g) := fun ⟨c, h, hl⟩ => by
  have hm : c ∈ g := by
    cases hg' : g.getLast? with
    | none => exact absurd (List.getLast?_eq_none_iff.mp hg') hg
    | some d =>
      rw [List.getLast?_append, hg'] at h
      cases h
      exact List.mem_of_getLast? hg'
  rw [bl_letter (hb c hm)] at hl
  cases hl
theorem pre_blank {g : List Nat} (hb : ∀ c ∈ g, blC c = true) : Pre g [] := fun l r h _ => h.blanks g hb
theorem noL_app {t l : List Nat} (hn : t ≠ []) (h : NoL t) : NoL (t ++ l) := fun x e => by
  cases t with
  | nil => exact absurd rfl hn
  | cons c t => exact h x e
theorem tok_ne {t : List Nat} (h : IsTok t) : t ≠ [] := by
  rcases h with h | ⟨c, rfl, _⟩
  · exact h.1
  · simp
theorem Pre.step {a t g : List Nat} {us : List (List Nat)} (h : Pre a us) (ht : IsTok t) (hb : ∀ c ∈ g, blC c = true) (hs : EndL a → NoL t) : Pre (a ++ t ++ g) (us ++ [t]) := fun l r hl hn => by
  have h1 : Spells (t ++ (g ++ l)) (t :: r) := by
    refine (hl.blanks g hb).tok ht ?_
    rcases ht with ⟨hne, hw⟩ | ⟨c, rfl, h1, h2⟩
    · right
      by_cases e : g = []
      · subst e
        refine hn ?_
        rw [List.append_nil]
        refine ⟨t.getLast hne, ?_, hw _ (List.getLast_mem hne)⟩
        rw [List.getLast?_append, List.getLast?_eq_some_getLast hne]
        rfl
      · intro x hx
        cases g with
        | nil => exact absurd rfl e
        | cons d g =>
          have hx : some d = some x := hx
          cases hx
          exact bl_letter (hb x (by simp))
    · exact .inl ⟨c, rfl, h2⟩
  have := h (t ++ (g ++ l)) (t :: r) h1 (fun e => noL_app (tok_ne ht) (hs e))
  rw [List.append_assoc, List.append_assoc, List.append_assoc, List.singleton_append]
  exact this
theorem Pre.sp {a : List Nat} {us : List (List Nat)} (h : Pre a us) : Pre (a ++ [32]) us := fun l r hl _ => by
  rw [List.append_assoc]
  exact h _ _ (.blank (by decide +kernel) hl) (fun _ => noL_cons (by decide +kernel))
theorem endL_sp {a : List Nat} : ¬ EndL (a ++ [32]) := endL_bl (by simp) (fun c hc => by cases List.mem_singleton.mp hc; decide +kernel)
theorem endL_slice {a : List Nat} (h : EndL a) : Txt.isalpha (Txt.slice (S a) (some (-1)) none) = true := by
  obtain ⟨c, h1, h2⟩ := h
  have hn : a ≠ [] := fun e => by rw [e] at h1; cases h1
  have e : a.drop (a.length - 1) = [c] := by
    have e1 : a = a.dropLast ++ [a.getLast hn] := (List.dropLast_concat_getLast hn).symm
    rw [List.getLast?_eq_some_getLast hn] at h1
    rw [Option.some.inj h1] at e1
    have e2 : a.length - 1 = a.dropLast.length := by rw [List.length_dropLast]
    rw [e2]
    conv => lhs; rw [e1]
    simp
  rw [SX.slice_last hn, e]
  exact alpha_S (by simp) (fun x hx => by cases List.mem_singleton.mp hx; exact h2)
theorem bl_list {xs : List V} (h : xs.all (okStem blC 3) = true) {v : V} (hv : v ∈ xs) : ∃ g, v = .str (S g) ∧ g.length ≤ 3 ∧ ∀ c ∈ g, blC c = true := by
  obtain ⟨g, rfl, h1, h2⟩ := okStem_spec (List.all_eq_true.mp h v hv)
  exact ⟨g, rfl, h1, List.all_eq_true.mp h2⟩
section
variable {P : Program} {w : World} {K : PySem.W.Frag} {mg : Str → Option Value} {base : Heap} {Z : Addrs}
def spSpread : Sp := fun vs H Q _ => ∃ (b p : Addr) (ts : List (List Nat)), vs = [.ref b, .ref p] ∧ BagAt H b ∧ p ≠ b ∧ H p = some (.lst (txV ts)) ∧ (∀ t ∈ ts, IsTok t ∧ t.length ≤ 8) ∧ ts.length ≤ 2000 ∧
  ∀ (a : List Nat) (q : Addr) (x : V) H', Spells a ts → a.length ≤ 12 * ts.length + 3 → H' q = some (.tup [.str (S a), x]) → Upto b H H' → BagAt H' b → Q (.ref q) H'
theorem c__law_spread (T : Txt K mg Z) : Cal P w K mg base 3 "_law_spread" spSpread [] := by
  have c__law_one : Cal P w K mg base 2 "_law_one" (spOne K) [] := c__law_one T
  refine cal_of T.d__law_spread sc__law_spread (fun vs H Q E h => ?_) (fun f cdv A outer s H vs Q E hr h => ?_)
  · obtain ⟨b, p, ts, rfl, _⟩ := h
    rfl
  · obtain ⟨b, p, ts, rfl, B, hpb, hp, htk, hlen, k⟩ := h
    refine ⟨_, (pss_cons (ps_par (i := 2) (j := 3) (by rfl) sc__law_spread.nd rfl rfl (by decide) rfl rfl (pa_cons (pe_c c__law_one hr (by omega) rfl (pa_cons (pv 0) (pa_cons (pe_lst (pa_cons pe_str (pa_cons pe_str (pa_cons pe_str pa_nil)))) pa_nil))) (pa_cons (pe_lst pa_nil) pa_nil)) (by rfl))
      (pss_cons (ps_for PassesOwn.never rfl (pi_enum rfl T.b_enumerate (pa_cons (pv 1) pa_nil)) (pg_tup (by rfl) (pgs_cons (pg_name (i := 4) sc__law_spread.nd rfl (by first | exact Or.inl rfl | exact Or.inr rfl)) (pgs_cons (pg_name (i := 5) sc__law_spread.nd rfl (by first | exact Or.inl rfl | exact Or.inr rfl)) pgs_nil))) (pss_cons (ps_expr (pe_bm PySem.F.plainAttrs_list PySem.F.slot_list_append PySem.F.type_list_append mt_append (pv 3) (pa_cons (pe_callB call_len_str (by rfl) T.b_len (by decide +kernel) (pa_cons (pv 2) pa_nil)) pa_nil)))
      (pss_cons (ps_set (i := 2) sc__law_spread.nd rfl (by first | exact Or.inl rfl | exact Or.inr rfl) (pe_op op_add_str (pe_op op_add_str (pv 2) (pv 5)) (pe_c c__law_one hr (by omega) rfl (pa_cons (pv 0) (pa_cons (pe_lst (pa_cons pe_str (pa_cons pe_str (pa_cons pe_str (pa_cons pe_str (pa_cons pe_str pa_nil)))))) pa_nil)))))
      (pss_one (ps_if (PW.pt (pw_and (pt_cmpR op_lt (pe_op op_add (pv 4) pe_int) (pe_callB call_len_seq (by rfl) T.b_len (by decide +kernel) (pa_cons (pv 1) pa_nil)) (nomark _)) (pw_and (pt_val (pe_bm0 PySem.F.plainAttrs_str PySem.F.slot_str_isalpha PySem.F.type_str_isalpha mt_isalpha (pe_slice C8.sl_txt (pv 2) (po_some (pe_un un_neg pe_int)) po_none))) (pw_and1 (pt_val (pe_bm0 PySem.F.plainAttrs_str PySem.F.slot_str_isalpha PySem.F.type_str_isalpha mt_isalpha (pe_ix ix_list (pv 1) (pe_op op_add (pv 4) pe_int) (fun _ _ => rfl)))))))) (pss_one (ps_set (i := 2) sc__law_spread.nd rfl (by first | exact Or.inl rfl | exact Or.inr rfl) (pe_op op_add_str (pv 2) pe_str))) pss_nil)))))
      (pss_one (ps_ret (pe_tup (pa_cons (pv 2) (pa_cons (pv 3) pa_nil))))))), ?_⟩
    refine ⟨_, rfl, by decide, fun q0 n0 => ⟨b, q0, _, rfl, B.upd (bagNe B n0), bagNe B n0, upd_same, by decide, by decide, fun v H1 hv u1 B1 => ⟨by decide, fun g ng => ⟨_, _, rfl, ?_⟩⟩⟩⟩
    obtain ⟨a0, rfl, l0, b0⟩ := bl_list (by decide +kernel) hv
    have U1 : Upto b H H1 := (Upto.new n0).trans u1
    have gb := bagNe B1 ng
    have hp1 : H1 p = some (.lst (txV ts)) := U1 _ _ hpb hp
    have gp : p ≠ g := ne_of_none hp1 ng
    have ng0 : H g = none := none_upto U1 ng gb
    refine ⟨_, rfl, p, _, rfl, SqL.of (by rw [upd_ne gp]; exact hp1), ?_⟩
    refine for_it walk_enum (fun j σ H2 => ∃ (a : List Nat) (pl : List V) (v4 v5 : Option V), σ = [some (.ref b), some (.ref p), some (.str (S a)), some (.ref g), v4, v5] ∧ Pre a (ts.take j) ∧ (∀ t, ts[j]? = some t → EndL a → NoL t) ∧ a.length ≤ 12 * j + 3 ∧ pl.length = j ∧
      H2 g = some (.lst pl) ∧ H2 p = some (.lst (txV ts)) ∧ Upto b H H2 ∧ BagAt H2 b)
      ⟨a0, [], none, none, rfl, pre_blank b0, fun t _ e => ?_, by omega, rfl, upd_same, by rw [upd_ne gp]; exact hp1, Upto.upd U1 ng0, B1.upd gb⟩ (fun _ _ _ _ h => SqL.of h.choose_spec.choose_spec.choose_spec.choose_spec.2.2.2.2.2.2.1) ?_ ?_
    · cases a0 with
      | nil => exact absurd e endL_nil
      | cons c a0 => exact absurd e (endL_bl (a := []) (by simp) b0)
    · rintro j y σ H2 H3 hj ⟨a, pl, v4, v5, rfl, hP, hE, hl, hpl, hg, hp2, u2, B2⟩ ⟨T0, y1, y2, rfl, hT0, rfl, q1, q2⟩
      cases q1
      obtain ⟨t, ht, rfl⟩ : ∃ t, ts[j]? = some t ∧ y2 = .str (S t) := by
        have : (txV ts)[j]? = some y2 := q2
        simp only [txV, List.getElem?_map] at this
        cases e : ts[j]? with
        | none => rw [e] at this; cases this
        | some t => rw [e] at this; cases this; exact ⟨t, rfl, rfl⟩
      obtain ⟨tk1, tk2⟩ := htk t (List.mem_of_getElem? ht)
      have hj2 : j < ts.length := (List.getElem?_eq_some_iff.mp ht).1
      have t3 := Same.new (o := .tup [V.int (j : Nat), V.str (S t)]) hT0
      have hg3 := t3 _ _ hg
      have B3 := B2.same t3
      have gb3 : g ≠ b := gb
      refine ⟨T0, _, rfl, SqT.of upd_same, rfl, _, _, rfl, _, _, rfl, rfl, ?_⟩
      refine ⟨_, rfl, .inl ⟨rfl, _, SqL.of hg3⟩, _, rfl, S a, rfl, szl (by omega), g, _, _, rfl, rfl, hg3, Nat.lt_of_le_of_lt (by omega : pl.length ≤ 2000) (by decide), ?_⟩
      refine ⟨_, rfl, _, rfl, _, _, rfl, rfl, by rw [S_len, S_len]; exact sz (by omega), ?_⟩
      rw [S_cat]
      have B4 := B3.upd (o := .lst (pl ++ [V.int (S a).length])) gb3
      refine ⟨_, rfl, by decide, fun q nq => ⟨b, q, _, rfl, B4.upd (bagNe B4 nq), bagNe B4 nq, upd_same, by decide, by decide, fun v H5 hv u5 B5 => ?_⟩⟩
      obtain ⟨w1, rfl, l1, b1⟩ := bl_list (by decide +kernel) hv
      refine ⟨_, _, rfl, rfl, by rw [S_len, S_len]; exact sz (by simp; omega), ?_⟩
      rw [S_cat]
      have hp5 : H5 p = some (.lst (txV ts)) := u5 _ _ hpb ((Same.new nq) _ _ (by rw [upd_ne gp]; exact t3 _ _ hp2))
      have hg5 : H5 g = some (.lst (pl ++ [V.int (S a).length])) := u5 _ _ gb ((Same.new nq) _ _ upd_same)
      have U5 : Upto b H H5 := (Upto.upd (u2.trans (Upto.of t3)) ng0).trans ((Upto.new nq).trans u5)
      have P5 := hP.step tk1 b1 (hE t ht)
      have ets : ts.take (j + 1) = ts.take j ++ [t] := by rw [List.take_add_one, ht]; rfl
      rw [← ets] at P5
      have l5 : (a ++ t ++ w1).length ≤ 12 * (j + 1) + 2 := by simp; omega
      refine ⟨_, rfl, _, _, rfl, rfl, _, rfl, p, _, rfl, .inl (SqL.of hp5), _, _, rfl, rfl, _, rfl, ?_⟩
      refine ite2 (fun h1 => ?_) (fun h1 => ?_)
      · have h1 : (j : Int) + 1 < ((txV ts).length : Int) := of_decide_eq_true h1
        rw [txV_len] at h1
        have hj3 : j + 1 < ts.length := by omega
        obtain ⟨t', ht'⟩ : ∃ t', ts[j + 1]? = some t' := ⟨_, List.getElem?_eq_getElem hj3⟩
        obtain ⟨tk3, _⟩ := htk t' (List.mem_of_getElem? ht')
        have res : (EndL (a ++ t ++ w1) → NoL t') → ∃ (a' : List Nat) (pl' : List V) (v4 v5 : Option V), [some (.ref b), some (.ref p), some (.str (S (a ++ t ++ w1))), some (.ref g), some (.int (j : Nat)), some (.str (S t))] = [some (.ref b), some (.ref p), some (.str (S a')), some (.ref g), v4, v5] ∧ Pre a' (ts.take (j + 1)) ∧ (∀ t, ts[j + 1]? = some t → EndL a' → NoL t) ∧ a'.length ≤ 12 * (j + 1) + 3 ∧ pl'.length = j + 1 ∧
            H5 g = some (.lst pl') ∧ H5 p = some (.lst (txV ts)) ∧ Upto b H H5 ∧ BagAt H5 b := fun h => ⟨a ++ t ++ w1, _, _, _, rfl, P5, (fun t2 e2 => by rw [ht'] at e2; cases e2; exact h), by omega, by simp [hpl], hg5, hp5, U5, B5⟩
        refine ⟨_, rfl, 1, rfl, _, rfl, S (a ++ t ++ w1), rfl, szl (by omega), rfl, _, rfl, rfl, trivial, _, rfl, ?_⟩
        refine ite2 (fun h2 => ?_) (fun h2 => ?_)
        · refine ⟨_, rfl, _, rfl, _, _, rfl, rfl, p, _, (j : Int) + 1, .str (S t'), rfl, rfl, SqL.of hp5, ?_, rfl, _, rfl, rfl, trivial, _, rfl, ?_⟩
          · show atI (txV ts) (((j + 1 : Nat)) : Int) = _
            exact atI_nat (by simp [txV, ht'])
          refine ite2 (fun h3 => ?_) (fun h3 => ?_)
          · have e1 : (" " : Str) = S [32] := by decide +kernel
            refine ⟨_, rfl, _, _, rfl, rfl, by rw [S_len]; exact sz (by rw [show (" " : Str).length = 1 by decide +kernel]; omega), ?_⟩
            rw [e1, S_cat]
            exact ⟨a ++ t ++ w1 ++ [32], _, _, _, rfl, P5.sp, (fun t2 _ e => absurd e endL_sp), by rw [List.length_append, List.length_singleton]; omega, by simp [hpl], hg5, hp5, U5, B5⟩
          · refine res fun _ => ?_
            rcases tk3 with ⟨hne, hw⟩ | ⟨c, rfl, _, hc⟩
            · exact absurd (alpha_S hne hw) h3
            · exact noL_cons hc
        · exact res fun e => absurd (endL_slice e) h2
      · have h1 : ¬ ((j : Int) + 1 < ((txV ts).length : Int)) := fun e => h1 (decide_eq_true e)
        rw [txV_len] at h1
        have hn : ts[j + 1]? = none := List.getElem?_eq_none (by omega)
        exact ⟨a ++ t ++ w1, _, _, _, rfl, P5, (fun t' ht' => by rw [hn] at ht'; cases ht'), by omega, by simp [hpl], hg5, hp5, U5, B5⟩
    · rintro σ H2 ⟨a, pl, v4, v5, rfl, hP, hE, hl, hpl, hg, hp2, u2, B2⟩
      rw [txV_len] at hP hl
      rw [List.take_length] at hP
      refine ⟨_, rfl, _, rfl, sz (by simp), fun q nq => ?_⟩
      have st := Same.new (o := .tup [V.str (S a), V.ref g]) nq
      have sp := hP [] [] .nil (fun _ x hx => by cases hx)
      rw [List.append_nil, List.append_nil] at sp
      exact k a q (.ref g) _ sp hl upd_same (u2.trans (Upto.of st)) (B2.same st)
end

/-! ### 14. how long texts are; tokens -/
theorem join_le {s : List Nat} : ∀ r : List (List Nat), (TL.joinL s r).length ≤ (r.map (·.length)).sum + r.length * s.length
  | [] => by simp [TL.joinL]
  | p :: r => by
    have ih := join_le (s := s) r
    rw [join_cons]
    cases r with
    | nil => simp
    | cons q r =>
      rw [List.isEmpty_cons, if_neg Bool.false_ne_true, List.length_append, List.length_append, List.map_cons, List.sum_cons, List.length_cons (as := q :: r), Nat.succ_mul]
      omega
def lnL (b : List Stp) : Nat := ((wrL b).map (·.length)).sum + (wrL b).length
theorem wrB_ln (b : List Stp) : (wrB b).length ≤ lnL b := by
  have := join_le (s := [32]) (wrL b)
  simpa [wrB, lnL] using this
theorem blk_ln (b : List Stp) : (blkT (wrL b)).length ≤ 4 + lnL b := by
  unfold blkT
  have l1 : (kw "{ }").length = 3 := by decide +kernel
  have l2 : (kw "{ ").length = 2 := by decide +kernel
  have l3 : (kw " }").length = 2 := by decide +kernel
  have := wrB_ln b
  unfold wrB at this
  split
  · omega
  · rw [List.length_append, List.length_append, l2, l3]
    omega
def GoodK (okk : List Stp → Prop) : Prop := ∀ b, okk b → (∀ t ∈ sgB b, IsTok t ∧ t.length ≤ 8) ∧ (sgB b).length ≤ 6 * wtB b ∧ lnL b ≤ 30 * wtB b
theorem tok_kw {x : Str} (h : wOk x = true) (h8 : (kw x).length ≤ 8) : IsTok (kw x) ∧ (kw x).length ≤ 8 := ⟨.inl (kw_ok h), h8⟩
theorem tok_brace : (IsTok (kw "{") ∧ (kw "{").length ≤ 8) ∧ (IsTok (kw "}") ∧ (kw "}").length ≤ 8) ∧ (IsTok (kw ";") ∧ (kw ";").length ≤ 8) := by
  have e1 : kw "{" = [123] := by decide +kernel
  have e2 : kw "}" = [125] := by decide +kernel
  have e3 : kw ";" = [59] := by decide +kernel
  rw [e1, e2, e3]
  exact ⟨⟨.inr ⟨123, rfl, by decide +kernel, by decide +kernel⟩, by decide⟩, ⟨.inr ⟨125, rfl, by decide +kernel, by decide +kernel⟩, by decide⟩, ⟨.inr ⟨59, rfl, by decide +kernel, by decide +kernel⟩, by decide⟩⟩
theorem word_8 {a : List Nat} (h : wordL a = true) : a.length ≤ 8 := by
  simp only [wordL, Bool.and_eq_true, decide_eq_true_eq] at h
  omega
theorem class_8 {a : List Nat} (h : classL a = true) : a.length ≤ 8 := by
  simp only [classL, Bool.and_eq_true, decide_eq_true_eq] at h
  omega
theorem step_8 {w : List Nat} (h : inV (.str (S w)) stepV = true) : w.length ≤ 6 := by
  have : stepV.all (fun v => match v with | .str x => decide (x.length ≤ 6) | _ => false) = true := by decide +kernel
  have h' : stepV.any (fun v => eqV v (.str (S w))) = true := h
  obtain ⟨v, hv, he⟩ := List.any_eq_true.mp h'
  have h2 := List.all_eq_true.mp this v hv
  cases v with
  | str x =>
    simp only [eqV, beq_iff_eq] at he
    rw [he] at h2
    have h2 := of_decide_eq_true h2
    rwa [S_len] at h2
  | _ => cases h2
theorem sgK_good {okk : List Stp → Prop} (G : GoodK okk) {b : List Stp} (h : okk b) : (∀ t ∈ sgK b, IsTok t ∧ t.length ≤ 8) ∧ (sgK b).length ≤ 6 * wtB b + 2 := by
  obtain ⟨h1, h2, _⟩ := G b h
  refine ⟨fun t ht => ?_, by simp [sgK]; omega⟩
  simp only [sgK, List.mem_cons, List.mem_append, List.not_mem_nil, or_false] at ht
  rcases ht with rfl | ht | rfl
  · exact tok_brace.1
  · exact h1 t ht
  · exact tok_brace.2.1
theorem ei_good {okk : List Stp → Prop} (G : GoodK okk) : ∀ (f : Bool) (bs : List (List Stp)), (∀ b ∈ bs, okk b) → (∀ t ∈ sgE f bs, IsTok t ∧ t.length ≤ 8) ∧ (sgE f bs).length ≤ 6 * wtL bs ∧ ((wrK bs).map (·.length)).sum + (wrK bs).length * 4 ≤ 30 * wtL bs
  | _, [], _ => ⟨fun _ h => absurd h (List.not_mem_nil), Nat.zero_le _, by simp [wrK]⟩
  | f, b :: bs, h => by
    obtain ⟨i1, i2, i3⟩ := ei_good G false bs fun c hc => h c (by simp [hc])
    obtain ⟨k1, k2⟩ := sgK_good G (h b (by simp))
    obtain ⟨_, _, k3⟩ := G b (h b (by simp))
    have kb := blk_ln b
    have e : sgE f (b :: bs) = (if f then kw "either" else kw "or") :: (sgK b ++ sgE false bs) := by simp [sgE, sgK]
    rw [e]
    refine ⟨fun t ht => ?_, ?_, ?_⟩
    · rcases List.mem_cons.mp ht with rfl | ht
      · cases f
        · exact tok_kw (x := "or") (by decide +kernel) (by decide +kernel)
        · exact tok_kw (x := "either") (by decide +kernel) (by decide +kernel)
      · exact (List.mem_append.mp ht).elim (k1 t) (i1 t)
    · simp only [List.length_cons, List.length_append, wtL]
      omega
    · simp only [wrK, List.map_cons, List.sum_cons, List.length_cons, wtL]
      omega
theorem goodS {okk : List Stp → Prop} (G : GoodK okk) (s : Stp) (h : okSt okk s) : (∀ t ∈ sgS s, IsTok t ∧ t.length ≤ 8) ∧ (sgS s).length ≤ 6 * wtS s ∧ (wrS s).length + 1 ≤ 30 * wtS s := by
  cases s with
  | word w x =>
    have hw := (with_ne h.1).1
    have l1 := step_8 hw
    have l2 := word_8 h.2
    refine ⟨fun t ht => ?_, by simp [sgS, wtS], by simp [wrS, wtS]; omega⟩
    simp only [sgS, List.mem_cons, List.not_mem_nil, or_false] at ht
    rcases ht with rfl | rfl | rfl
    · exact ⟨.inl (with_tok hw), by omega⟩
    · exact ⟨.inl (word_tok h.2), l2⟩
    · exact tok_brace.2.2
  | cls w x =>
    have hw := (class_ne h.1).1
    have l1 := step_8 hw
    have l2 := class_8 h.2
    refine ⟨fun t ht => ?_, by simp [sgS, wtS], by simp [wrS, wtS]; omega⟩
    simp only [sgS, List.mem_cons, List.not_mem_nil, or_false] at ht
    rcases ht with rfl | rfl | rfl
    · exact ⟨.inl (with_tok hw), by omega⟩
    · exact ⟨.inl (class_tok h.2), l2⟩
    · exact tok_brace.2.2
  | bare w =>
    have hw := (bare_ne h).1
    have l1 := step_8 hw
    refine ⟨fun t ht => ?_, by simp [sgS, wtS], by simp [wrS, wtS]; omega⟩
    simp only [sgS, List.mem_cons, List.not_mem_nil, or_false] at ht
    rcases ht with rfl | rfl
    · exact ⟨.inl (with_tok hw), by omega⟩
    · exact tok_brace.2.2
  | loop b =>
    obtain ⟨k1, k2⟩ := sgK_good G h
    obtain ⟨_, _, k3⟩ := G b h
    have kb := blk_ln b
    have e : sgS (.loop b) = kw "loop" :: sgK b := by simp [sgS, sgK]
    have l1 : (kw "loop ").length = 5 := by decide +kernel
    rw [e]
    refine ⟨fun t ht => ?_, by simp [wtS]; omega, by simp [wrS, wtS, l1]; omega⟩
    rcases List.mem_cons.mp ht with rfl | ht
    · exact tok_kw (x := "loop") (by decide +kernel) (by decide +kernel)
    · exact k1 t ht
  | iff x a b =>
    obtain ⟨o1, o2, o3⟩ := h
    obtain ⟨k1, k2⟩ := sgK_good G o2
    obtain ⟨j1, j2⟩ := sgK_good G o3
    obtain ⟨_, _, k3⟩ := G a o2
    obtain ⟨_, _, j3⟩ := G b o3
    have ka := blk_ln a
    have kb := blk_ln b
    have l0 := word_8 o1
    have e : sgS (.iff x a b) = kw "if" :: x :: (sgK a ++ kw "else" :: sgK b) := by simp [sgS, sgK]
    have l1 : (kw "if ").length = 3 := by decide +kernel
    have l2 : (kw " else ").length = 6 := by decide +kernel
    rw [e]
    refine ⟨fun t ht => ?_, by simp [wtS]; omega, by simp [wrS, wtS, l1, l2]; omega⟩
    simp only [List.mem_cons, List.mem_append] at ht
    rcases ht with rfl | rfl | ht | rfl | ht
    · exact tok_kw (x := "if") (by decide +kernel) (by decide +kernel)
    · exact ⟨.inl (word_tok o1), l0⟩
    · exact k1 t ht
    · exact tok_kw (x := "else") (by decide +kernel) (by decide +kernel)
    · exact j1 t ht
  | tr a b =>
    obtain ⟨o2, o3⟩ := h
    obtain ⟨k1, k2⟩ := sgK_good G o2
    obtain ⟨j1, j2⟩ := sgK_good G o3
    obtain ⟨_, _, k3⟩ := G a o2
    obtain ⟨_, _, j3⟩ := G b o3
    have ka := blk_ln a
    have kb := blk_ln b
    have e : sgS (.tr a b) = kw "try" :: (sgK a ++ kw "catch" :: sgK b) := by simp [sgS, sgK]
    have l1 : (kw "try ").length = 4 := by decide +kernel
    have l2 : (kw " catch ").length = 7 := by decide +kernel
    rw [e]
    refine ⟨fun t ht => ?_, by simp [wtS]; omega, by simp [wrS, wtS, l1, l2]; omega⟩
    simp only [List.mem_cons, List.mem_append] at ht
    rcases ht with rfl | ht | rfl | ht
    · exact tok_kw (x := "try") (by decide +kernel) (by decide +kernel)
    · exact k1 t ht
    · exact tok_kw (x := "catch") (by decide +kernel) (by decide +kernel)
    · exact j1 t ht
  | ei bs =>
    obtain ⟨i1, i2, i3⟩ := ei_good G true bs h.2
    have jl := join_le (s := kw " or ") (wrK bs)
    have l1 : (kw "either ").length = 7 := by decide +kernel
    have l2 : (kw " or ").length = 4 := by decide +kernel
    rw [l2] at jl
    refine ⟨i1, by simp [sgS, wtS]; omega, by simp [wrS, wtS, l1]; omega⟩
theorem goodB {okk : List Stp → Prop} (G : GoodK okk) : ∀ b : List Stp, (∀ s ∈ b, okSt okk s) → (∀ t ∈ sgB b, IsTok t ∧ t.length ≤ 8) ∧ (sgB b).length ≤ 6 * wtB b ∧ lnL b ≤ 30 * wtB b
  | [], _ => ⟨fun _ h => absurd h (List.not_mem_nil), Nat.zero_le _, Nat.zero_le _⟩
  | s :: b, h => by
    obtain ⟨h1, h2, h3⟩ := goodS G s (h s (by simp))
    obtain ⟨i1, i2, i3⟩ := goodB G b fun c hc => h c (by simp [hc])
    refine ⟨fun t ht => (List.mem_append.mp ht).elim (h1 t) (i1 t), ?_, ?_⟩
    · simp only [sgB, List.length_append, wtB]
      omega
    · unfold lnL at i3 ⊢
      simp only [wrL, List.map_cons, List.sum_cons, List.length_cons, wtB]
      omega
theorem goodN : ∀ n, GoodK (okK n)
  | 0 => fun _ h => h.elim
  | n + 1 => fun b h => goodB (goodN n) b h
theorem reads_ok {a : List Nat} {b : List Stp} (hok : okK 7 b) (sp : Spells a (sgB b)) : pSteps (some a) = .ok (.tuple (datB b)) := by
  rw [pSteps_some (bodyN_ok hok (toks_spells sp))]
  rfl
theorem datB_app : ∀ b c : List Stp, datB (b ++ c) = datB b ++ datB c
  | [], _ => rfl
  | t :: b, c => congrArg (datS t :: ·) (datB_app b c)
theorem okK_app {n : Nat} {a b : List Stp} (ha : okK (n + 1) a) (hb : okK (n + 1) b) : okK (n + 1) (a ++ b) := fun s hs => (List.mem_append.mp hs).elim (ha s) (hb s)
theorem ne_refl {n : Nat} {b : List Stp} (h : okK n b) : PyData.eqv (.tuple (datB b)) (.tuple (datB b)) = true := SeqAt.eqv_refl _ (layN n b h).1

/-! ### 15. the law -/
def spLaw (K : PySem.W.Frag) : Sp := fun vs H Q _ => ∃ (a : Addr) (ns : List Int), vs = [.ref a] ∧ SqL K H a (ns.map V.int) ∧ ns.length ≤ 63 ∧ ∀ H', Q (.bl true) H'
theorem strOr_S {K : PySem.W.Frag} {H : Hp} {c : List Nat} (h : c.length ≤ 100000) : StrOr K H (.str (S c)) (some c) := ⟨_, .base (.str _), (kit_ty (show kitB "str" "str" = some true by decide +kernel)), fun a e => by cases e; exact ⟨rfl, h⟩⟩
theorem strOr_kw {K : PySem.W.Frag} {H : Hp} {x : Str} (h : (kw x).length ≤ 100000) : StrOr K H (.str x) (some (kw x)) := by
  have := strOr_S (K := K) (H := H) h
  rwa [S_kw] at this
theorem same_two {b r : Addr} {H H1 H2 : Hp} (s : Same H H1) (hb : H b = none) (hr : H r = none) (u : Up2 b r H1 H2) : Same H H2 := fun c o e => u c o (ne_of_none e hb) (ne_of_none e hr) (s c o e)
theorem WordsAt.stayU {K : PySem.W.Frag} {H H' : Hp} {b w0 : Addr} (h : WordsAt K H b w0) (hb : BagAt H b) (u : Upto b H H') : WordsAt K H' b w0 := by
  obtain ⟨p0, p1, p2, n0, n1, n2, hT, e0, e1, e2, h0, h1, h2, o⟩ := h
  exact ⟨p0, p1, p2, n0, n1, n2, (TStay.bag hb u).sq hT, e0, e1, e2, u _ _ e0 h0, u _ _ e1 h1, u _ _ e2 h2, o⟩
theorem reads_k {Z0 : Addr} {a : List Nat} {b : List Stp} {E : XK} {H : Hp} (hok : okK 7 b) (sp : Spells a (sgB b)) : ∀ p, pSteps (some a) = .error p → ∀ d H', H d = none → Same H H' → H' d = some (.xd [("at", .int p)]) → E (.ref Z0) (some d) H' := fun p e => by
  rw [reads_ok hok sp] at e
  cases e
theorem reads_k' {a : List Nat} {b : List Stp} {d : PyData} (hok : okK 7 b) (sp : Spells a (sgB b)) (e : pSteps (some a) = .ok d) : d = .tuple (datB b) := by
  rw [reads_ok hok sp] at e
  cases e
  rfl
theorem dt_tyx {K : PySem.W.Frag} {H : Hp} {v : V} {ds : List PyData} (h : Dt K H v (.tuple ds)) : TyX K H v (.type "tuple") := by
  cases h with
  | tup hs _ =>
    rcases hs with (h | ⟨o, h⟩) | h
    · exact .base (.tup h)
    · exact .fTuple h
    · obtain ⟨_, _, _, h, c, _⟩ := h
      exact .kTuple h c
theorem iteNe {c A B : Prop} [Decidable c] (hc : c) (h : B) : if (!decide c) = true then A else B := by
  rw [decide_eq_true hc]
  exact iteF h
section
variable {P : Program} {w : World} {K : PySem.W.Frag} {mg : Str → Option Value} {base : Heap} {Z : Addrs}
theorem ok_law {f : Addr} {fd : FuncData} (F : Fun K "law" "law" s_law f fd) (T : Txt K mg Z) : FnOk P w K mg base CX0 60 f fd ["script"] (spLaw K) := by
  have c_read_steps : CalX P w K mg base 40 "read_steps" _ := c_read_steps T
  have c_write_steps : Cal P w K mg base 21 "write_steps" (spWB K (okK 6)) [] := (writes T 6).2
  have c__law_bag : Cal P w K mg base 1 "_law_bag" (spBag K) [] := c__law_bag T
  have c__law_draw : Cal P w K mg base 1 "_law_draw" spDraw [] := c__law_draw T
  have c__law_start : Cal P w K mg base 4 "_law_start" (spStart K) [] := c__law_start T
  have c__law_body : Cal P w K mg base 16 "_law_body" (spLBody K 7) [] := law_bodies T 7
  have c__law_tower : Cal P w K mg base 3 "_law_tower" (spTower K) [] := c__law_tower T
  have c__law_spread : Cal P w K mg base 3 "_law_spread" spSpread [] := c__law_spread T
  have c__law_signs : Cal P w K mg base 14 "_law_signs" (spSg K (okK 6)) [] := (law_signs T 6).2
  have c__law_written : Cal P w K mg base 14 "_law_written" (spWB K (okK 6)) [] := (law_writes T 6 (by decide)).2
  refine F.ok sc_law (fun vs H Q E h => ?_) (fun cdv A outer s H vs Q E hr h => ?_)
  · obtain ⟨a, ns, rfl, _⟩ := h
    rfl
  · obtain ⟨a, ns, rfl, hS, hlen, k⟩ := h
    refine ⟨_, (pss_cons (ps_if (PW.pt (pw_or (pt_cmpR (op_neD hr.units) (pe_cX c_read_steps hr (by omega) rfl passL (pa_cons pe_str pa_nil)) (pe_tup pa_nil) (nomark _)) (pw_or (pt_cmpR (op_neD hr.units) (pe_cX c_read_steps hr (by omega) rfl passL (pa_cons pe_str pa_nil)) (pe_tup pa_nil) (nomark _)) (pw_or1 (pt_cmpR op_ne (pe_c c_write_steps hr (by omega) rfl (pa_cons (pe_tup pa_nil) pa_nil)) pe_str (nomark _)))))) (pss_one (ps_ret pe_bl)) pss_nil)
      (pss_cons (ps_for PassesOwn.never rfl (pi_range1 rfl T.b_range (pa_cons (pe_callB (call_max2 rfl) (by rfl) T.b_max (by decide +kernel) (pa_cons pe_int (pa_cons (pe_callB (call_min2 rfl) (by rfl) T.b_min (by decide +kernel) (pa_cons pe_int (pa_cons (pe_callB call_len_seq (by rfl) T.b_len (by decide +kernel) (pa_cons (pv 0) pa_nil)) pa_nil))) pa_nil))) pa_nil)) (pg_name (i := 1) sc_law.nd rfl (by first | exact Or.inl rfl | exact Or.inr rfl)) (pss_cons (ps_set (i := 2) sc_law.nd rfl (by first | exact Or.inl rfl | exact Or.inr rfl) (pe_c c__law_bag hr (by omega) rfl (pa_cons (pv 0) (pa_cons (pv 1) pa_nil))))
      (pss_cons (ps_par (i := 3) (j := 4) (by rfl) sc_law.nd rfl rfl (by decide) rfl rfl (pa_cons (pe_c c__law_start hr (by omega) rfl (pa_cons (pv 2) pa_nil)) (pa_cons (pe_c c__law_draw hr (by omega) rfl (pa_cons (pv 2) (pa_cons pe_int pa_nil))) pa_nil)) (by rfl))
      (pss_cons (ps_set (i := 5) sc_law.nd rfl (by first | exact Or.inl rfl | exact Or.inr rfl) (pe_c c__law_tower hr (by omega) rfl (pa_cons (pv 2) (pa_cons (pe_ix ix_tup (pv 3) pe_int (fun _ _ => rfl)) (pa_cons (pe_c c__law_body hr (by omega) rfl (pa_cons (pv 2) (pa_cons (pv 3) (pa_cons (pe_lst (pa_cons pe_int pa_nil)) (pa_cons (pe_op op_sub pe_int (pv 4)) pa_nil))))) (pa_cons (pv 4) pa_nil))))))
      (pss_cons (ps_set (i := 6) sc_law.nd rfl (by first | exact Or.inl rfl | exact Or.inr rfl) (pe_ix ix_tup (pe_c c__law_spread hr (by omega) rfl (pa_cons (pv 2) (pa_cons (pe_c c__law_signs hr (by omega) rfl (pa_cons (pv 5) pa_nil)) pa_nil))) pe_int (fun _ _ => rfl)))
      (pss_cons (ps_set (i := 7) sc_law.nd rfl (by first | exact Or.inl rfl | exact Or.inr rfl) (pe_c c__law_written hr (by omega) rfl (pa_cons (pv 5) pa_nil)))
      (pss_cons (ps_if (PW.pt (pw_or (pt_cmpR (op_neD hr.units) (pe_cX c_read_steps hr (by omega) rfl passL (pa_cons (pv 6) pa_nil)) (pv 5) (nomark _)) (pw_or (pt_cmpR op_ne (pe_c c_write_steps hr (by omega) rfl (pa_cons (pv 5) pa_nil)) (pv 7) (nomark _)) (pw_or1 (pt_cmpR (op_neD hr.units) (pe_cX c_read_steps hr (by omega) rfl passL (pa_cons (pv 7) pa_nil)) (pv 5) (nomark _)))))) (pss_one (ps_ret pe_bl)) pss_nil)
      (pss_cons (ps_if (PW.pt (pw_or (pt_not (pt_val (pe_callB call_isi (by rfl) T.b_isinstance (by decide +kernel) (pa_cons (pe_cX c_read_steps hr (by omega) rfl passL (pa_cons (pv 6) pa_nil)) (pa_cons (pe_bltn (v := .ty "tuple") (by rfl) T.b_tuple (by decide +kernel) rfl) pa_nil))))) (pw_or1 (pt_not (pt_val (pe_callB call_isi (by rfl) T.b_isinstance (by decide +kernel) (pa_cons (pe_c c_write_steps hr (by omega) rfl (pa_cons (pv 5) pa_nil)) (pa_cons (pe_bltn (v := .ty "str") (by rfl) T.b_str (by decide +kernel) rfl) pa_nil)))))))) (pss_one (ps_ret pe_bl)) pss_nil)
      (pss_one (ps_if (PW.pt (pw_or (pt_cmpR op_ne (pe_c c_write_steps hr (by omega) rfl (pa_cons (pe_cX c_read_steps hr (by omega) rfl passL (pa_cons (pv 6) pa_nil)) pa_nil)) (pv 7) (nomark _)) (pw_or1 (pt_cmpR (op_neD hr.units) (pe_cX c_read_steps hr (by omega) rfl passL (pa_cons (pe_op op_add_str (pe_op op_add_str (pv 7) pe_str) (pv 6)) pa_nil)) (pe_op op_catA (pv 5) (pv 5)) (nomark _))))) (pss_one (ps_ret pe_bl)) pss_nil))))))))))
      (pss_one (ps_ret pe_bl)))), ?_⟩
    have nl : okK 7 [] := nil_ok 6
    have s0 : SeqAt.shaped (.tuple (datB [])) = true := shaped_body (n := 7) (by decide) nl
    have sp0 : Spells (kw "") (sgB []) := by
      rw [show kw "" = [] by decide +kernel]
      exact .nil
    have sp1 : Spells (kw " \n ") (sgB []) := by
      rw [show kw " \n " = [32, 10, 32] by decide +kernel]
      exact Spells.blanks .nil [32, 10, 32] (by decide +kernel)
    refine ⟨_, some (kw ""), rfl, strOr_kw (by decide +kernel), fun d e u H1 S1 D1 => ?_, reads_k nl sp0⟩
    cases reads_k' nl sp0 e
    refine ⟨sz (by simp), fun e0 ne0 => ?_⟩
    have t0 := Same.new (o := .tup []) ne0
    refine ⟨_, _, (dt_stay (TStay.of t0) _ _ D1).dp, .tup (SqT.of upd_same) .nil, s0, rfl, _, rfl, ?_⟩
    rw [show PyData.eqv (.tuple (datB [])) (.tuple []) = true from rfl]
    refine iteF ?_
    refine ⟨_, some (kw " \n "), rfl, strOr_kw (by decide +kernel), fun d e u2 H2 S2 D2 => ?_, reads_k nl sp1⟩
    cases reads_k' nl sp1 e
    refine ⟨sz (by simp), fun e1 ne1 => ?_⟩
    have t1 := Same.new (o := .tup []) ne1
    refine ⟨_, _, (dt_stay (TStay.of t1) _ _ D2).dp, .tup (SqT.of upd_same) .nil, s0, rfl, _, rfl, ?_⟩
    rw [show PyData.eqv (.tuple (datB [])) (.tuple []) = true from rfl]
    refine iteF ?_
    refine ⟨sz (by simp), fun e2 ne2 => ?_⟩
    have t2 := Same.new (o := .tup []) ne2
    refine ⟨_, [], rfl, .tup (SqT.of upd_same) .nil, (fun _ h => absurd h (List.not_mem_nil)), by decide, fun H3 S3 => ?_⟩
    have S0 : Same H H3 := ((S1.trans t0).trans (S2.trans t1)).trans (t2.trans S3)
    have ew : V.str (S (wrB [])) = V.str "" := by decide +kernel
    refine ⟨rfl, _, rfl, ?_⟩
    refine iteNe ew ?_
    -- for at in range(..)
    refine ⟨_, rfl, a, _, rfl, .inl (S0.seq hS), _, _, rfl, _, _, rfl, _, rfl, (by simp only [List.length_map]; split <;> split <;> omega), (by simp only [List.length_map]; split <;> split <;> omega), ?_⟩
    refine for_it walk_range (fun i σ H4 => (∃ v1 v2 v3 v4 v5 v6 v7, σ = [some (.ref a), v1, v2, v3, v4, v5, v6, v7]) ∧ Same H H4) ⟨⟨_, _, _, _, _, _, _, rfl⟩, S0⟩ (fun _ _ _ _ _ => trivial) ?_ ?_
    · rintro i x σ H3 H4 hi ⟨⟨v1, v2, v3, v4, v5, v6, v7, rfl⟩, S4⟩ ⟨rfl, rfl⟩
      -- bag
      refine ⟨_, rfl, _, rfl, a, ns, _, rfl, S4.seq hS, by omega, fun b H5 nb e5 B5 => ?_⟩
      have nb0 : H b = none := S4.free nb
      -- words, many
      refine ⟨_, rfl, b, rfl, B5, fun w0 H6 nw hW _ u6 B6 => ⟨_, rfl, b, 7, rfl, B6, by decide, lt9000 (by decide) (by decide), fun mm H7 m0 m1 u7 B7 => ⟨_, _, rfl, ?_⟩⟩⟩
      obtain ⟨m, rfl⟩ : ∃ m : Nat, mm = (m : Int) := ⟨mm.toNat, by omega⟩
      have hm : m ≤ 6 := by omega
      have hW7 := hW.stayU B6 u7
      have SA : Same H H7 := u7.same nb0 (u6.same nb0 (S4.trans e5))
      obtain ⟨p0, _, _, n0, _, _, hT, g0, _, _, h0, _, _, o0, _, _, l0, _, _⟩ := id hW7
      -- body
      refine ⟨_, rfl, _, rfl, w0, _, 0, _, rfl, rfl, hT, rfl, _, rfl, _, rfl, sz (by simp), fun r nr => ?_⟩
      have tr := Same.new (o := .lst [V.int 40]) nr
      have rb := bagNe B7 nr
      have R8 : RoomAt (upd H7 r (.lst [V.int 40])) r 40 := upd_same
      have rp : p0 ≠ r := ne_of_none h0 nr
      refine ⟨_, rfl, _, _, rfl, rfl, b, w0, r, 40, 6 - m, (by show [V.ref b, V.ref w0, V.ref r, V.int (6 - (m : Int))] = _; rw [show (6 : Int) - (m : Int) = ((6 - m : Nat) : Int) by omega]), by omega, B7.same tr, rb, R8, hW7.stayU B7 (Upto.of tr), fun v0 bd0 R' H9 ok0 D0 wt0 R9 u9 B9 => ?_⟩
      have nr0 : H r = none := SA.free nr
      have SC : Same H H9 := same_two (SA.trans tr) nb0 nr0 u9
      refine ⟨_, rfl, b, p0, v0, m, 6 - m, bd0, n0, rfl, hm, B9, g0, u9 _ _ g0 rp (tr _ _ h0), o0, l0, ok0, D0, fun v bd H10 okb Db wtb u10 B10 => ?_⟩
      have okb : okK 7 bd := by rwa [show 6 - m + 1 + m = 7 by omega] at okb
      obtain ⟨tks, tkl, wrl⟩ := goodN 7 bd okb
      have wt : wtB bd ≤ 220 := by omega
      have lw := wrB_ln bd
      have hlw : (wrB bd).length ≤ 6600 := by omega
      have SD : Same H H10 := u10.same nb0 SC
      -- text
      refine ⟨_, rfl, _, rfl, v, bd, rfl, Db, okb, by omega, fun g H11 ng e11 hg => ⟨b, g, _, rfl, B10.same e11, bagNe B10 ng, hg, tks, by omega, fun ta q x H12 sp lta hq u12 B12 => ⟨q, _, 0, _, rfl, rfl, SqT.of hq, rfl, ?_⟩⟩⟩
      have hta : ta.length ≤ 15900 := by omega
      have SF : Same H H12 := u12.same nb0 (SD.trans e11)
      have D12 := dt_stay ((TStay.of e11).trans (TStay.bag (B10.same e11) u12)) _ _ Db
      -- canonical
      refine ⟨_, rfl, v, bd, rfl, D12, okb, by omega, fun H13 e13 => ?_⟩
      have D13 := dt_stay (TStay.of e13) _ _ D12
      have spw : Spells (wrB bd) (sgB bd) := (sp_body (n := 6) okb).spells
      have sh : SeqAt.shaped (.tuple (datB bd)) = true := shaped_body (n := 7) (by decide) okb
      have er := ne_refl okb
      -- read_steps(text) != body
      refine ⟨_, rfl, _, some ta, rfl, strOr_S (by omega), fun d e u H14 e14 D14 => ?_, reads_k okb sp⟩
      cases reads_k' okb sp e
      have D14' := dt_stay (TStay.of e14) _ _ D13
      refine ⟨_, rfl, _, _, D14.dp, D14'.dp, sh, sh, _, rfl, ?_⟩
      rw [er]
      refine iteF ?_
      -- write_steps(body) != canonical
      refine ⟨_, rfl, v, bd, rfl, D14', okb, by omega, fun H15 e15 => ⟨_, rfl, rfl, _, rfl, iteNe rfl ?_⟩⟩
      have D15 := dt_stay (TStay.of e15) _ _ D14'
      -- read_steps(canonical) != body
      refine ⟨_, rfl, _, some (wrB bd), rfl, strOr_S (by omega), fun d e u H16 e16 D16 => ?_, reads_k okb spw⟩
      cases reads_k' okb spw e
      have D16' := dt_stay (TStay.of e16) _ _ D15
      refine ⟨_, rfl, _, _, D16.dp, D16'.dp, sh, sh, _, rfl, ?_⟩
      rw [er]
      refine iteF ?_
      -- isinstance(read_steps(text), tuple)
      refine ⟨_, rfl, _, some ta, rfl, strOr_S (by omega), fun d e u H17 e17 D17 => ?_, reads_k okb sp⟩
      cases reads_k' okb sp e
      have D17' := dt_stay (TStay.of e17) _ _ D16'
      refine ⟨_, _, _, _, _, rfl, .ty _, dt_tyx D17, kit_ty (show kitB "tuple" "tuple" = some true by decide +kernel), _, rfl, iteF ?_⟩
      -- isinstance(write_steps(body), str)
      refine ⟨_, rfl, v, bd, rfl, D17', okb, by omega, fun H18 e18 => ?_⟩
      have D18 := dt_stay (TStay.of e18) _ _ D17'
      refine ⟨_, _, _, _, _, rfl, .ty _, .base (.str _), kit_ty (show kitB "str" "str" = some true by decide +kernel), _, rfl, iteF ?_⟩
      -- write_steps(read_steps(text)) != canonical
      refine ⟨_, rfl, _, some ta, rfl, strOr_S (by omega), fun d e u H19 e19 D19 => ?_, reads_k okb sp⟩
      cases reads_k' okb sp e
      have D19' := dt_stay (TStay.of e19) _ _ D18
      refine ⟨_, bd, rfl, D19, okb, by omega, fun H20 e20 => ⟨_, rfl, rfl, _, rfl, iteNe rfl ?_⟩⟩
      have D20 := dt_stay (TStay.of e20) _ _ D19'
      -- read_steps(canonical + ' ' + text) != body + body
      have e32 : (" " : Str) = S [32] := by decide +kernel
      have l32 : (" " : Str).length = 1 := by decide +kernel
      refine ⟨_, rfl, _, _, rfl, rfl, by rw [S_len, l32]; exact sz (by omega), _, rfl, _, _, rfl, rfl, by rw [Str.length_append, l32, S_len, S_len]; exact sz (by omega), ?_⟩
      rw [e32, S_cat, S_cat]
      have spb : Spells (wrB bd ++ [32] ++ ta) (sgB (bd ++ bd)) := by
        have := ((sp_body (n := 6) okb).app any_blank) ta _ sp
        rwa [List.append_nil, ← sgB_app] at this
      have okbb : okK 7 (bd ++ bd) := okK_app okb okb
      have shh : SeqAt.shaped (.tuple (datB (bd ++ bd))) = true := shaped_body (n := 7) (by decide) okbb
      have err := ne_refl okbb
      refine ⟨_, some (wrB bd ++ [32] ++ ta), rfl, strOr_S (by simp; omega), fun d e u H21 e21 D21 => ?_, reads_k okbb spb⟩
      cases reads_k' okbb spb e
      have D21' := dt_stay (TStay.of e21) _ _ D20
      have S21 : Same H H21 := SF.trans (e13.trans (e14.trans (e15.trans (e16.trans (e17.trans (e18.trans (e19.trans (e20.trans e21))))))))
      cases id D21' with
      | @tup z zs _ hz hA =>
        have hl := dtAll_len hA
        rw [datB_len] at hl
        refine ⟨_, rfl, _, rfl, z, z, zs, zs, rfl, rfl, hz, hz, ?_, fun e => ?_, fun h e => absurd e h, fun _ _ y ny => ?_⟩
        · have : bd.length ≤ 220 := by
            have : ∀ b : List Stp, b.length ≤ wtB b := by
              intro b
              induction b with
              | nil => exact Nat.le_refl _
              | cons s b ih =>
                have : 1 ≤ wtS s := by cases s <;> simp [wtS] <;> omega
                simp only [List.length_cons, wtB]
                omega
            have := this bd
            omega
          exact sz (by omega)
        · have e0 : bd = [] := List.eq_nil_of_length_eq_zero (by rw [← hl, e]; rfl)
          subst e0
          refine ⟨_, _, D21.dp, D21'.dp, shh, sh, _, rfl, ?_⟩
          rw [show PyData.eqv (.tuple (datB ([] ++ []))) (.tuple (datB [])) = true from rfl]
          refine iteF ?_
          exact ⟨⟨_, _, _, _, _, _, _, rfl⟩, S21⟩
        · have ty := Same.new (o := .tup (zs ++ zs)) ny
          have hAA := dtAll_stay (TStay.of ty) _ _ (dtAll_app hA hA)
          rw [← datB_app] at hAA
          have DD : Dt K (upd H21 y (.tup (zs ++ zs))) (.ref y) (.tuple (datB (bd ++ bd))) := .tup (SqT.of upd_same) hAA
          refine ⟨_, _, (dt_stay (TStay.of ty) _ _ D21).dp, DD.dp, shh, shh, _, rfl, ?_⟩
          rw [err]
          refine iteF ?_
          exact ⟨⟨_, _, _, _, _, _, _, rfl⟩, S21.trans ty⟩
    · rintro σ H4 ⟨⟨v1, v2, v3, v4, v5, v6, v7, rfl⟩, S4⟩
      exact k H4
end

theorem all_mk {l : PySem.W.OpenLaw} {w : World} {K : PySem.W.Frag} {h : Heap} {mg : Str → Option Value} {fa f4 : Addr} (X : K.In h) (G : h.Ns mainGlobals mg) (hfa : mg "law" = some (.ref fa))
    {tk_BLANKS : PySem.Tok}
    {tk_CAPITAL : PySem.Tok}
    {tk_DEEPEST : PySem.Tok}
    {tk_LONGEST : PySem.Tok}
    {C_RESERVED : Addr} {od_RESERVED : Option Addr} {n_RESERVED : Nat} {sl_RESERVED : Array (Option Value)} {its_RESERVED : Array Value}
    {tk_SMALL : PySem.Tok}
    {C_STEP_WORDS : Addr} {od_STEP_WORDS : Option Addr} {n_STEP_WORDS : Nat} {sl_STEP_WORDS : Array (Option Value)} {its_STEP_WORDS : Array Value}
    {C_WITH_CLASS : Addr} {od_WITH_CLASS : Option Addr} {n_WITH_CLASS : Nat} {sl_WITH_CLASS : Array (Option Value)} {its_WITH_CLASS : Array Value}
    {C_WITH_WORD : Addr} {od_WITH_WORD : Option Addr} {n_WITH_WORD : Nat} {sl_WITH_WORD : Array (Option Value)} {its_WITH_WORD : Array Value}
    {C_BadText : Addr}
    {nm_BadText q_BadText : Str} {N_BadText : Addr} {bs_BadText : List Value} {sn_BadText : List Str} {sub_BadText : List Value} {ab_BadText : Bool} {col_BadText : Option Bool} {dd_BadText : Option Addr} {m0_BadText m1_BadText m2_BadText m3_BadText m5_BadText : Option Value}
    {u0_BadText : Addr}
    {C_Reader : Addr}
    {f_BadText___init__ : Addr} {od_BadText___init__ an_BadText___init__ : Option Addr} {sl_BadText___init__ : Array (Option Value)} {oc_BadText___init__ kV_BadText___init__ dc_BadText___init__ pm_BadText___init__ cd_BadText___init__ ct_BadText___init__ : Value}
    {f_tokens_of : Addr} {od_tokens_of an_tokens_of : Option Addr} {sl_tokens_of : Array (Option Value)} {oc_tokens_of kV_tokens_of dc_tokens_of pm_tokens_of cd_tokens_of ct_tokens_of : Value}
    {f_token_end : Addr} {od_token_end an_token_end : Option Addr} {sl_token_end : Array (Option Value)} {oc_token_end kV_token_end dc_token_end pm_token_end cd_token_end ct_token_end : Value}
    {f_is_letter : Addr} {od_is_letter an_is_letter : Option Addr} {sl_is_letter : Array (Option Value)} {oc_is_letter kV_is_letter dc_is_letter pm_is_letter cd_is_letter ct_is_letter : Value}
    {f_fits_word : Addr} {od_fits_word an_fits_word : Option Addr} {sl_fits_word : Array (Option Value)} {oc_fits_word kV_fits_word dc_fits_word pm_fits_word cd_fits_word ct_fits_word : Value}
    {f_fits_class : Addr} {od_fits_class an_fits_class : Option Addr} {sl_fits_class : Array (Option Value)} {oc_fits_class kV_fits_class dc_fits_class pm_fits_class cd_fits_class ct_fits_class : Value}
    {f_all_small : Addr} {od_all_small an_all_small : Option Addr} {sl_all_small : Array (Option Value)} {oc_all_small kV_all_small dc_all_small pm_all_small cd_all_small ct_all_small : Value}
    {f_Reader___init__ : Addr} {od_Reader___init__ an_Reader___init__ : Option Addr} {sl_Reader___init__ : Array (Option Value)} {oc_Reader___init__ kV_Reader___init__ dc_Reader___init__ pm_Reader___init__ cd_Reader___init__ ct_Reader___init__ : Value}
    {f_Reader_token : Addr} {od_Reader_token an_Reader_token : Option Addr} {sl_Reader_token : Array (Option Value)} {oc_Reader_token kV_Reader_token dc_Reader_token pm_Reader_token cd_Reader_token ct_Reader_token : Value}
    {f_Reader_position : Addr} {od_Reader_position an_Reader_position : Option Addr} {sl_Reader_position : Array (Option Value)} {oc_Reader_position kV_Reader_position dc_Reader_position pm_Reader_position cd_Reader_position ct_Reader_position : Value}
    {f_Reader_advance : Addr} {od_Reader_advance an_Reader_advance : Option Addr} {sl_Reader_advance : Array (Option Value)} {oc_Reader_advance kV_Reader_advance dc_Reader_advance pm_Reader_advance cd_Reader_advance ct_Reader_advance : Value}
    {f_Reader_take : Addr} {od_Reader_take an_Reader_take : Option Addr} {sl_Reader_take : Array (Option Value)} {oc_Reader_take kV_Reader_take dc_Reader_take pm_Reader_take cd_Reader_take ct_Reader_take : Value}
    {f_Reader_take_word : Addr} {od_Reader_take_word an_Reader_take_word : Option Addr} {sl_Reader_take_word : Array (Option Value)} {oc_Reader_take_word kV_Reader_take_word dc_Reader_take_word pm_Reader_take_word cd_Reader_take_word ct_Reader_take_word : Value}
    {f_Reader_take_class : Addr} {od_Reader_take_class an_Reader_take_class : Option Addr} {sl_Reader_take_class : Array (Option Value)} {oc_Reader_take_class kV_Reader_take_class dc_Reader_take_class pm_Reader_take_class cd_Reader_take_class ct_Reader_take_class : Value}
    {f_Reader_finish : Addr} {od_Reader_finish an_Reader_finish : Option Addr} {sl_Reader_finish : Array (Option Value)} {oc_Reader_finish kV_Reader_finish dc_Reader_finish pm_Reader_finish cd_Reader_finish ct_Reader_finish : Value}
    {f_read_body : Addr} {od_read_body an_read_body : Option Addr} {sl_read_body : Array (Option Value)} {oc_read_body kV_read_body dc_read_body pm_read_body cd_read_body ct_read_body : Value}
    {f_read_step : Addr} {od_read_step an_read_step : Option Addr} {sl_read_step : Array (Option Value)} {oc_read_step kV_read_step dc_read_step pm_read_step cd_read_step ct_read_step : Value}
    {f_read_if : Addr} {od_read_if an_read_if : Option Addr} {sl_read_if : Array (Option Value)} {oc_read_if kV_read_if dc_read_if pm_read_if cd_read_if ct_read_if : Value}
    {f_read_try : Addr} {od_read_try an_read_try : Option Addr} {sl_read_try : Array (Option Value)} {oc_read_try kV_read_try dc_read_try pm_read_try cd_read_try ct_read_try : Value}
    {f_read_either : Addr} {od_read_either an_read_either : Option Addr} {sl_read_either : Array (Option Value)} {oc_read_either kV_read_either dc_read_either pm_read_either cd_read_either ct_read_either : Value}
    {f_read_block : Addr} {od_read_block an_read_block : Option Addr} {sl_read_block : Array (Option Value)} {oc_read_block kV_read_block dc_read_block pm_read_block cd_read_block ct_read_block : Value}
    {f_read_braces : Addr} {od_read_braces an_read_braces : Option Addr} {sl_read_braces : Array (Option Value)} {oc_read_braces kV_read_braces dc_read_braces pm_read_braces cd_read_braces ct_read_braces : Value}
    {f_read_steps : Addr} {od_read_steps an_read_steps : Option Addr} {sl_read_steps : Array (Option Value)} {oc_read_steps kV_read_steps dc_read_steps pm_read_steps cd_read_steps ct_read_steps : Value}
    {f_write_steps : Addr} {od_write_steps an_write_steps : Option Addr} {sl_write_steps : Array (Option Value)} {oc_write_steps kV_write_steps dc_write_steps pm_write_steps cd_write_steps ct_write_steps : Value}
    {f_write_step : Addr} {od_write_step an_write_step : Option Addr} {sl_write_step : Array (Option Value)} {oc_write_step kV_write_step dc_write_step pm_write_step cd_write_step ct_write_step : Value}
    {f_write_block : Addr} {od_write_block an_write_block : Option Addr} {sl_write_block : Array (Option Value)} {oc_write_block kV_write_block dc_write_block pm_write_block cd_write_block ct_write_block : Value}
    {f__law_bag : Addr} {od__law_bag an__law_bag : Option Addr} {sl__law_bag : Array (Option Value)} {oc__law_bag kV__law_bag dc__law_bag pm__law_bag cd__law_bag ct__law_bag : Value}
    {f__law_draw : Addr} {od__law_draw an__law_draw : Option Addr} {sl__law_draw : Array (Option Value)} {oc__law_draw kV__law_draw dc__law_draw pm__law_draw cd__law_draw ct__law_draw : Value}
    {f__law_one : Addr} {od__law_one an__law_one : Option Addr} {sl__law_one : Array (Option Value)} {oc__law_one kV__law_one dc__law_one pm__law_one cd__law_one ct__law_one : Value}
    {f__law_words : Addr} {od__law_words an__law_words : Option Addr} {sl__law_words : Array (Option Value)} {oc__law_words kV__law_words dc__law_words pm__law_words cd__law_words ct__law_words : Value}
    {f__law_labels : Addr} {od__law_labels an__law_labels : Option Addr} {sl__law_labels : Array (Option Value)} {oc__law_labels kV__law_labels dc__law_labels pm__law_labels cd__law_labels ct__law_labels : Value}
    {f__law_step : Addr} {od__law_step an__law_step : Option Addr} {sl__law_step : Array (Option Value)} {oc__law_step kV__law_step dc__law_step pm__law_step cd__law_step ct__law_step : Value}
    {f__law_body : Addr} {od__law_body an__law_body : Option Addr} {sl__law_body : Array (Option Value)} {oc__law_body kV__law_body dc__law_body pm__law_body cd__law_body ct__law_body : Value}
    {f__law_start : Addr} {od__law_start an__law_start : Option Addr} {sl__law_start : Array (Option Value)} {oc__law_start kV__law_start dc__law_start pm__law_start cd__law_start ct__law_start : Value}
    {f__law_tower : Addr} {od__law_tower an__law_tower : Option Addr} {sl__law_tower : Array (Option Value)} {oc__law_tower kV__law_tower dc__law_tower pm__law_tower cd__law_tower ct__law_tower : Value}
    {f__law_block : Addr} {od__law_block an__law_block : Option Addr} {sl__law_block : Array (Option Value)} {oc__law_block kV__law_block dc__law_block pm__law_block cd__law_block ct__law_block : Value}
    {f__law_written : Addr} {od__law_written an__law_written : Option Addr} {sl__law_written : Array (Option Value)} {oc__law_written kV__law_written dc__law_written pm__law_written cd__law_written ct__law_written : Value}
    {f__law_signs : Addr} {od__law_signs an__law_signs : Option Addr} {sl__law_signs : Array (Option Value)} {oc__law_signs kV__law_signs dc__law_signs pm__law_signs cd__law_signs ct__law_signs : Value}
    {f__law_curly : Addr} {od__law_curly an__law_curly : Option Addr} {sl__law_curly : Array (Option Value)} {oc__law_curly kV__law_curly dc__law_curly pm__law_curly cd__law_curly ct__law_curly : Value}
    {f__law_spread : Addr} {od__law_spread an__law_spread : Option Addr} {sl__law_spread : Array (Option Value)} {oc__law_spread kV__law_spread dc__law_spread pm__law_spread cd__law_spread ct__law_spread : Value}
    {od4 an4 : Option Addr} {sl4 : Array (Option Value)} {oc4 kV4 dc4 pm4 cd4 ct4 : Value}
    (zb_abs : PySem.W.nsIn K mainGlobals "abs" = some none)
    (zb_enumerate : PySem.W.nsIn K mainGlobals "enumerate" = some none)
    (zb_int : PySem.W.nsIn K mainGlobals "int" = some none)
    (zb_isinstance : PySem.W.nsIn K mainGlobals "isinstance" = some none)
    (zb_len : PySem.W.nsIn K mainGlobals "len" = some none)
    (zb_list : PySem.W.nsIn K mainGlobals "list" = some none)
    (zb_max : PySem.W.nsIn K mainGlobals "max" = some none)
    (zb_min : PySem.W.nsIn K mainGlobals "min" = some none)
    (zb_range : PySem.W.nsIn K mainGlobals "range" = some none)
    (zb_str : PySem.W.nsIn K mainGlobals "str" = some none)
    (zb_tuple : PySem.W.nsIn K mainGlobals "tuple" = some none)
    (zc_BLANKS : PySem.W.nsIn K mainGlobals "BLANKS" = some (some (.str " \n" tk_BLANKS)))
    (zc_CAPITAL : PySem.W.nsIn K mainGlobals "CAPITAL" = some (some (.str "ABCDEFGHIJKLMNOPQRSTUVWXYZ" tk_CAPITAL)))
    (zc_DEEPEST : PySem.W.nsIn K mainGlobals "DEEPEST" = some (some (.int 6 tk_DEEPEST)))
    (zc_LONGEST : PySem.W.nsIn K mainGlobals "LONGEST" = some (some (.int 8 tk_LONGEST)))
    (zc_RESERVED : PySem.W.nsIn K mainGlobals "RESERVED" = some (some (.ref C_RESERVED)))
    (lc_RESERVED : K.lookup C_RESERVED = some ⟨.type "tuple", od_RESERVED, .seq its_RESERVED n_RESERVED, sl_RESERVED⟩)
    (vc_RESERVED : its_RESERVED.toList.map absV = L_RESERVED.map some)
    (zc_SMALL : PySem.W.nsIn K mainGlobals "SMALL" = some (some (.str "abcdefghijklmnopqrstuvwxyz" tk_SMALL)))
    (zc_STEP_WORDS : PySem.W.nsIn K mainGlobals "STEP_WORDS" = some (some (.ref C_STEP_WORDS)))
    (lc_STEP_WORDS : K.lookup C_STEP_WORDS = some ⟨.type "tuple", od_STEP_WORDS, .seq its_STEP_WORDS n_STEP_WORDS, sl_STEP_WORDS⟩)
    (vc_STEP_WORDS : its_STEP_WORDS.toList.map absV = L_STEP_WORDS.map some)
    (zc_WITH_CLASS : PySem.W.nsIn K mainGlobals "WITH_CLASS" = some (some (.ref C_WITH_CLASS)))
    (lc_WITH_CLASS : K.lookup C_WITH_CLASS = some ⟨.type "tuple", od_WITH_CLASS, .seq its_WITH_CLASS n_WITH_CLASS, sl_WITH_CLASS⟩)
    (vc_WITH_CLASS : its_WITH_CLASS.toList.map absV = L_WITH_CLASS.map some)
    (zc_WITH_WORD : PySem.W.nsIn K mainGlobals "WITH_WORD" = some (some (.ref C_WITH_WORD)))
    (lc_WITH_WORD : K.lookup C_WITH_WORD = some ⟨.type "tuple", od_WITH_WORD, .seq its_WITH_WORD n_WITH_WORD, sl_WITH_WORD⟩)
    (vc_WITH_WORD : its_WITH_WORD.toList.map absV = L_WITH_WORD.map some)
    (aC_BadText : PySem.W.nsIn K mainGlobals "BadText" = some (some (.ref C_BadText)))
    (xL_BadText : K.lookup C_BadText = some (excClassObj nm_BadText q_BadText C_BadText N_BadText bs_BadText [.ref u0_BadText, .type "ValueError", .type "Exception", .type "BaseException", .type "object"] true sn_BadText sub_BadText ab_BadText col_BadText dd_BadText m0_BadText m1_BadText m2_BadText m3_BadText m5_BadText "ValueError.__new__"))
    (sa_BadText : PySem.W.findIn K (.ref C_BadText) "__setattr__" = some (some (.builtin "object.__setattr__")))
    (eC_BadText : PySem.W.subIn K (.ref C_BadText) (.type "BaseException") = some true)
    (tC_BadText : PySem.W.typeIn K (.ref C_BadText) = some (.type "type"))
    (kC_BadText : PySem.W.keepIn K (.ref C_BadText) = true)
    (n_BadText_at : PySem.W.findIn K (.ref C_BadText) "at" = some none)
    (aC_Reader : PySem.W.nsIn K mainGlobals "Reader" = some (some (.ref C_Reader)))
    (pg_Reader : PySem.W.plainGet K C_Reader Str.empty = true)
    (hd_Reader : PySem.W.hasDictIn K C_Reader = true)
    (po_Reader : PySem.W.plainOver K C_Reader = true)
    (sa_Reader : PySem.W.findIn K (.ref C_Reader) "__setattr__" = some (some (.builtin "object.__setattr__")))
    (mk_Reader : PySem.W.makesIn K C_Reader = true)
    (kc_Reader : PySem.W.keepIn K (.ref C_Reader) = true)
    (n_Reader_tokens : PySem.W.findIn K (.ref C_Reader) "tokens" = some none)
    (n_Reader_length : PySem.W.findIn K (.ref C_Reader) "length" = some none)
    (n_Reader_place : PySem.W.findIn K (.ref C_Reader) "place" = some none)
    (a_BadText___init__ : PySem.W.findIn K (.ref C_BadText) "__init__" = some (some (.ref f_BadText___init__)))
    (l_BadText___init__ : K.lookup f_BadText___init__ = some ⟨oc_BadText___init__, od_BadText___init__, .func (PySem.W.fnOf "__init__" "BadText.__init__" (defArgs s_BadText___init__) (defBody s_BadText___init__) (defScope s_BadText___init__) .none kV_BadText___init__ dc_BadText___init__ pm_BadText___init__ an_BadText___init__ cd_BadText___init__ ct_BadText___init__), sl_BadText___init__⟩)
    (c_BadText___init__ : PySem.W.codeIn K cd_BadText___init__ "BadText.__init__" = true)
    (k_BadText___init__ : PySem.W.keepIn K (.ref f_BadText___init__) = true)
    (i_BadText___init__ : PySem.W.typeIn K (.ref f_BadText___init__) = some (.type "function"))
    (a_tokens_of : PySem.W.nsIn K mainGlobals "tokens_of" = some (some (.ref f_tokens_of)))
    (l_tokens_of : K.lookup f_tokens_of = some ⟨oc_tokens_of, od_tokens_of, .func (PySem.W.fnOf "tokens_of" "tokens_of" (defArgs s_tokens_of) (defBody s_tokens_of) (defScope s_tokens_of) .none kV_tokens_of dc_tokens_of pm_tokens_of an_tokens_of cd_tokens_of ct_tokens_of), sl_tokens_of⟩)
    (c_tokens_of : PySem.W.codeIn K cd_tokens_of "tokens_of" = true)
    (k_tokens_of : PySem.W.keepIn K (.ref f_tokens_of) = true)
    (a_token_end : PySem.W.nsIn K mainGlobals "token_end" = some (some (.ref f_token_end)))
    (l_token_end : K.lookup f_token_end = some ⟨oc_token_end, od_token_end, .func (PySem.W.fnOf "token_end" "token_end" (defArgs s_token_end) (defBody s_token_end) (defScope s_token_end) .none kV_token_end dc_token_end pm_token_end an_token_end cd_token_end ct_token_end), sl_token_end⟩)
    (c_token_end : PySem.W.codeIn K cd_token_end "token_end" = true)
    (k_token_end : PySem.W.keepIn K (.ref f_token_end) = true)
    (a_is_letter : PySem.W.nsIn K mainGlobals "is_letter" = some (some (.ref f_is_letter)))
    (l_is_letter : K.lookup f_is_letter = some ⟨oc_is_letter, od_is_letter, .func (PySem.W.fnOf "is_letter" "is_letter" (defArgs s_is_letter) (defBody s_is_letter) (defScope s_is_letter) .none kV_is_letter dc_is_letter pm_is_letter an_is_letter cd_is_letter ct_is_letter), sl_is_letter⟩)
    (c_is_letter : PySem.W.codeIn K cd_is_letter "is_letter" = true)
    (k_is_letter : PySem.W.keepIn K (.ref f_is_letter) = true)
    (a_fits_word : PySem.W.nsIn K mainGlobals "fits_word" = some (some (.ref f_fits_word)))
    (l_fits_word : K.lookup f_fits_word = some ⟨oc_fits_word, od_fits_word, .func (PySem.W.fnOf "fits_word" "fits_word" (defArgs s_fits_word) (defBody s_fits_word) (defScope s_fits_word) .none kV_fits_word dc_fits_word pm_fits_word an_fits_word cd_fits_word ct_fits_word), sl_fits_word⟩)
    (c_fits_word : PySem.W.codeIn K cd_fits_word "fits_word" = true)
    (k_fits_word : PySem.W.keepIn K (.ref f_fits_word) = true)
    (a_fits_class : PySem.W.nsIn K mainGlobals "fits_class" = some (some (.ref f_fits_class)))
    (l_fits_class : K.lookup f_fits_class = some ⟨oc_fits_class, od_fits_class, .func (PySem.W.fnOf "fits_class" "fits_class" (defArgs s_fits_class) (defBody s_fits_class) (defScope s_fits_class) .none kV_fits_class dc_fits_class pm_fits_class an_fits_class cd_fits_class ct_fits_class), sl_fits_class⟩)
    (c_fits_class : PySem.W.codeIn K cd_fits_class "fits_class" = true)
    (k_fits_class : PySem.W.keepIn K (.ref f_fits_class) = true)
    (a_all_small : PySem.W.nsIn K mainGlobals "all_small" = some (some (.ref f_all_small)))
    (l_all_small : K.lookup f_all_small = some ⟨oc_all_small, od_all_small, .func (PySem.W.fnOf "all_small" "all_small" (defArgs s_all_small) (defBody s_all_small) (defScope s_all_small) .none kV_all_small dc_all_small pm_all_small an_all_small cd_all_small ct_all_small), sl_all_small⟩)
    (c_all_small : PySem.W.codeIn K cd_all_small "all_small" = true)
    (k_all_small : PySem.W.keepIn K (.ref f_all_small) = true)
    (a_Reader___init__ : PySem.W.findIn K (.ref C_Reader) "__init__" = some (some (.ref f_Reader___init__)))
    (l_Reader___init__ : K.lookup f_Reader___init__ = some ⟨oc_Reader___init__, od_Reader___init__, .func (PySem.W.fnOf "__init__" "Reader.__init__" (defArgs s_Reader___init__) (defBody s_Reader___init__) (defScope s_Reader___init__) .none kV_Reader___init__ dc_Reader___init__ pm_Reader___init__ an_Reader___init__ cd_Reader___init__ ct_Reader___init__), sl_Reader___init__⟩)
    (c_Reader___init__ : PySem.W.codeIn K cd_Reader___init__ "Reader.__init__" = true)
    (k_Reader___init__ : PySem.W.keepIn K (.ref f_Reader___init__) = true)
    (i_Reader___init__ : PySem.W.isFn K (.ref f_Reader___init__) = true)
    (a_Reader_token : PySem.W.findIn K (.ref C_Reader) "token" = some (some (.ref f_Reader_token)))
    (l_Reader_token : K.lookup f_Reader_token = some ⟨oc_Reader_token, od_Reader_token, .func (PySem.W.fnOf "token" "Reader.token" (defArgs s_Reader_token) (defBody s_Reader_token) (defScope s_Reader_token) .none kV_Reader_token dc_Reader_token pm_Reader_token an_Reader_token cd_Reader_token ct_Reader_token), sl_Reader_token⟩)
    (c_Reader_token : PySem.W.codeIn K cd_Reader_token "Reader.token" = true)
    (k_Reader_token : PySem.W.keepIn K (.ref f_Reader_token) = true)
    (i_Reader_token : PySem.W.isFn K (.ref f_Reader_token) = true)
    (a_Reader_position : PySem.W.findIn K (.ref C_Reader) "position" = some (some (.ref f_Reader_position)))
    (l_Reader_position : K.lookup f_Reader_position = some ⟨oc_Reader_position, od_Reader_position, .func (PySem.W.fnOf "position" "Reader.position" (defArgs s_Reader_position) (defBody s_Reader_position) (defScope s_Reader_position) .none kV_Reader_position dc_Reader_position pm_Reader_position an_Reader_position cd_Reader_position ct_Reader_position), sl_Reader_position⟩)
    (c_Reader_position : PySem.W.codeIn K cd_Reader_position "Reader.position" = true)
    (k_Reader_position : PySem.W.keepIn K (.ref f_Reader_position) = true)
    (i_Reader_position : PySem.W.isFn K (.ref f_Reader_position) = true)
    (a_Reader_advance : PySem.W.findIn K (.ref C_Reader) "advance" = some (some (.ref f_Reader_advance)))
    (l_Reader_advance : K.lookup f_Reader_advance = some ⟨oc_Reader_advance, od_Reader_advance, .func (PySem.W.fnOf "advance" "Reader.advance" (defArgs s_Reader_advance) (defBody s_Reader_advance) (defScope s_Reader_advance) .none kV_Reader_advance dc_Reader_advance pm_Reader_advance an_Reader_advance cd_Reader_advance ct_Reader_advance), sl_Reader_advance⟩)
    (c_Reader_advance : PySem.W.codeIn K cd_Reader_advance "Reader.advance" = true)
    (k_Reader_advance : PySem.W.keepIn K (.ref f_Reader_advance) = true)
    (i_Reader_advance : PySem.W.isFn K (.ref f_Reader_advance) = true)
    (a_Reader_take : PySem.W.findIn K (.ref C_Reader) "take" = some (some (.ref f_Reader_take)))
    (l_Reader_take : K.lookup f_Reader_take = some ⟨oc_Reader_take, od_Reader_take, .func (PySem.W.fnOf "take" "Reader.take" (defArgs s_Reader_take) (defBody s_Reader_take) (defScope s_Reader_take) .none kV_Reader_take dc_Reader_take pm_Reader_take an_Reader_take cd_Reader_take ct_Reader_take), sl_Reader_take⟩)
    (c_Reader_take : PySem.W.codeIn K cd_Reader_take "Reader.take" = true)
    (k_Reader_take : PySem.W.keepIn K (.ref f_Reader_take) = true)
    (i_Reader_take : PySem.W.isFn K (.ref f_Reader_take) = true)
    (a_Reader_take_word : PySem.W.findIn K (.ref C_Reader) "take_word" = some (some (.ref f_Reader_take_word)))
    (l_Reader_take_word : K.lookup f_Reader_take_word = some ⟨oc_Reader_take_word, od_Reader_take_word, .func (PySem.W.fnOf "take_word" "Reader.take_word" (defArgs s_Reader_take_word) (defBody s_Reader_take_word) (defScope s_Reader_take_word) .none kV_Reader_take_word dc_Reader_take_word pm_Reader_take_word an_Reader_take_word cd_Reader_take_word ct_Reader_take_word), sl_Reader_take_word⟩)
    (c_Reader_take_word : PySem.W.codeIn K cd_Reader_take_word "Reader.take_word" = true)
    (k_Reader_take_word : PySem.W.keepIn K (.ref f_Reader_take_word) = true)
    (i_Reader_take_word : PySem.W.isFn K (.ref f_Reader_take_word) = true)
    (a_Reader_take_class : PySem.W.findIn K (.ref C_Reader) "take_class" = some (some (.ref f_Reader_take_class)))
    (l_Reader_take_class : K.lookup f_Reader_take_class = some ⟨oc_Reader_take_class, od_Reader_take_class, .func (PySem.W.fnOf "take_class" "Reader.take_class" (defArgs s_Reader_take_class) (defBody s_Reader_take_class) (defScope s_Reader_take_class) .none kV_Reader_take_class dc_Reader_take_class pm_Reader_take_class an_Reader_take_class cd_Reader_take_class ct_Reader_take_class), sl_Reader_take_class⟩)
    (c_Reader_take_class : PySem.W.codeIn K cd_Reader_take_class "Reader.take_class" = true)
    (k_Reader_take_class : PySem.W.keepIn K (.ref f_Reader_take_class) = true)
    (i_Reader_take_class : PySem.W.isFn K (.ref f_Reader_take_class) = true)
    (a_Reader_finish : PySem.W.findIn K (.ref C_Reader) "finish" = some (some (.ref f_Reader_finish)))
    (l_Reader_finish : K.lookup f_Reader_finish = some ⟨oc_Reader_finish, od_Reader_finish, .func (PySem.W.fnOf "finish" "Reader.finish" (defArgs s_Reader_finish) (defBody s_Reader_finish) (defScope s_Reader_finish) .none kV_Reader_finish dc_Reader_finish pm_Reader_finish an_Reader_finish cd_Reader_finish ct_Reader_finish), sl_Reader_finish⟩)
    (c_Reader_finish : PySem.W.codeIn K cd_Reader_finish "Reader.finish" = true)
    (k_Reader_finish : PySem.W.keepIn K (.ref f_Reader_finish) = true)
    (i_Reader_finish : PySem.W.isFn K (.ref f_Reader_finish) = true)
    (a_read_body : PySem.W.nsIn K mainGlobals "read_body" = some (some (.ref f_read_body)))
    (l_read_body : K.lookup f_read_body = some ⟨oc_read_body, od_read_body, .func (PySem.W.fnOf "read_body" "read_body" (defArgs s_read_body) (defBody s_read_body) (defScope s_read_body) .none kV_read_body dc_read_body pm_read_body an_read_body cd_read_body ct_read_body), sl_read_body⟩)
    (c_read_body : PySem.W.codeIn K cd_read_body "read_body" = true)
    (k_read_body : PySem.W.keepIn K (.ref f_read_body) = true)
    (a_read_step : PySem.W.nsIn K mainGlobals "read_step" = some (some (.ref f_read_step)))
    (l_read_step : K.lookup f_read_step = some ⟨oc_read_step, od_read_step, .func (PySem.W.fnOf "read_step" "read_step" (defArgs s_read_step) (defBody s_read_step) (defScope s_read_step) .none kV_read_step dc_read_step pm_read_step an_read_step cd_read_step ct_read_step), sl_read_step⟩)
    (c_read_step : PySem.W.codeIn K cd_read_step "read_step" = true)
    (k_read_step : PySem.W.keepIn K (.ref f_read_step) = true)
    (a_read_if : PySem.W.nsIn K mainGlobals "read_if" = some (some (.ref f_read_if)))
    (l_read_if : K.lookup f_read_if = some ⟨oc_read_if, od_read_if, .func (PySem.W.fnOf "read_if" "read_if" (defArgs s_read_if) (defBody s_read_if) (defScope s_read_if) .none kV_read_if dc_read_if pm_read_if an_read_if cd_read_if ct_read_if), sl_read_if⟩)
    (c_read_if : PySem.W.codeIn K cd_read_if "read_if" = true)
    (k_read_if : PySem.W.keepIn K (.ref f_read_if) = true)
    (a_read_try : PySem.W.nsIn K mainGlobals "read_try" = some (some (.ref f_read_try)))
    (l_read_try : K.lookup f_read_try = some ⟨oc_read_try, od_read_try, .func (PySem.W.fnOf "read_try" "read_try" (defArgs s_read_try) (defBody s_read_try) (defScope s_read_try) .none kV_read_try dc_read_try pm_read_try an_read_try cd_read_try ct_read_try), sl_read_try⟩)
    (c_read_try : PySem.W.codeIn K cd_read_try "read_try" = true)
    (k_read_try : PySem.W.keepIn K (.ref f_read_try) = true)
    (a_read_either : PySem.W.nsIn K mainGlobals "read_either" = some (some (.ref f_read_either)))
    (l_read_either : K.lookup f_read_either = some ⟨oc_read_either, od_read_either, .func (PySem.W.fnOf "read_either" "read_either" (defArgs s_read_either) (defBody s_read_either) (defScope s_read_either) .none kV_read_either dc_read_either pm_read_either an_read_either cd_read_either ct_read_either), sl_read_either⟩)
    (c_read_either : PySem.W.codeIn K cd_read_either "read_either" = true)
    (k_read_either : PySem.W.keepIn K (.ref f_read_either) = true)
    (a_read_block : PySem.W.nsIn K mainGlobals "read_block" = some (some (.ref f_read_block)))
    (l_read_block : K.lookup f_read_block = some ⟨oc_read_block, od_read_block, .func (PySem.W.fnOf "read_block" "read_block" (defArgs s_read_block) (defBody s_read_block) (defScope s_read_block) .none kV_read_block dc_read_block pm_read_block an_read_block cd_read_block ct_read_block), sl_read_block⟩)
    (c_read_block : PySem.W.codeIn K cd_read_block "read_block" = true)
    (k_read_block : PySem.W.keepIn K (.ref f_read_block) = true)
    (a_read_braces : PySem.W.nsIn K mainGlobals "read_braces" = some (some (.ref f_read_braces)))
    (l_read_braces : K.lookup f_read_braces = some ⟨oc_read_braces, od_read_braces, .func (PySem.W.fnOf "read_braces" "read_braces" (defArgs s_read_braces) (defBody s_read_braces) (defScope s_read_braces) .none kV_read_braces dc_read_braces pm_read_braces an_read_braces cd_read_braces ct_read_braces), sl_read_braces⟩)
    (c_read_braces : PySem.W.codeIn K cd_read_braces "read_braces" = true)
    (k_read_braces : PySem.W.keepIn K (.ref f_read_braces) = true)
    (a_read_steps : PySem.W.nsIn K mainGlobals "read_steps" = some (some (.ref f_read_steps)))
    (l_read_steps : K.lookup f_read_steps = some ⟨oc_read_steps, od_read_steps, .func (PySem.W.fnOf "read_steps" "read_steps" (defArgs s_read_steps) (defBody s_read_steps) (defScope s_read_steps) .none kV_read_steps dc_read_steps pm_read_steps an_read_steps cd_read_steps ct_read_steps), sl_read_steps⟩)
    (c_read_steps : PySem.W.codeIn K cd_read_steps "read_steps" = true)
    (k_read_steps : PySem.W.keepIn K (.ref f_read_steps) = true)
    (a_write_steps : PySem.W.nsIn K mainGlobals "write_steps" = some (some (.ref f_write_steps)))
    (l_write_steps : K.lookup f_write_steps = some ⟨oc_write_steps, od_write_steps, .func (PySem.W.fnOf "write_steps" "write_steps" (defArgs s_write_steps) (defBody s_write_steps) (defScope s_write_steps) .none kV_write_steps dc_write_steps pm_write_steps an_write_steps cd_write_steps ct_write_steps), sl_write_steps⟩)
    (c_write_steps : PySem.W.codeIn K cd_write_steps "write_steps" = true)
    (k_write_steps : PySem.W.keepIn K (.ref f_write_steps) = true)
    (a_write_step : PySem.W.nsIn K mainGlobals "write_step" = some (some (.ref f_write_step)))
    (l_write_step : K.lookup f_write_step = some ⟨oc_write_step, od_write_step, .func (PySem.W.fnOf "write_step" "write_step" (defArgs s_write_step) (defBody s_write_step) (defScope s_write_step) .none kV_write_step dc_write_step pm_write_step an_write_step cd_write_step ct_write_step), sl_write_step⟩)
    (c_write_step : PySem.W.codeIn K cd_write_step "write_step" = true)
    (k_write_step : PySem.W.keepIn K (.ref f_write_step) = true)
    (a_write_block : PySem.W.nsIn K mainGlobals "write_block" = some (some (.ref f_write_block)))
    (l_write_block : K.lookup f_write_block = some ⟨oc_write_block, od_write_block, .func (PySem.W.fnOf "write_block" "write_block" (defArgs s_write_block) (defBody s_write_block) (defScope s_write_block) .none kV_write_block dc_write_block pm_write_block an_write_block cd_write_block ct_write_block), sl_write_block⟩)
    (c_write_block : PySem.W.codeIn K cd_write_block "write_block" = true)
    (k_write_block : PySem.W.keepIn K (.ref f_write_block) = true)
    (a__law_bag : PySem.W.nsIn K mainGlobals "_law_bag" = some (some (.ref f__law_bag)))
    (l__law_bag : K.lookup f__law_bag = some ⟨oc__law_bag, od__law_bag, .func (PySem.W.fnOf "_law_bag" "_law_bag" (defArgs s__law_bag) (defBody s__law_bag) (defScope s__law_bag) .none kV__law_bag dc__law_bag pm__law_bag an__law_bag cd__law_bag ct__law_bag), sl__law_bag⟩)
    (c__law_bag : PySem.W.codeIn K cd__law_bag "_law_bag" = true)
    (k__law_bag : PySem.W.keepIn K (.ref f__law_bag) = true)
    (a__law_draw : PySem.W.nsIn K mainGlobals "_law_draw" = some (some (.ref f__law_draw)))
    (l__law_draw : K.lookup f__law_draw = some ⟨oc__law_draw, od__law_draw, .func (PySem.W.fnOf "_law_draw" "_law_draw" (defArgs s__law_draw) (defBody s__law_draw) (defScope s__law_draw) .none kV__law_draw dc__law_draw pm__law_draw an__law_draw cd__law_draw ct__law_draw), sl__law_draw⟩)
    (c__law_draw : PySem.W.codeIn K cd__law_draw "_law_draw" = true)
    (k__law_draw : PySem.W.keepIn K (.ref f__law_draw) = true)
    (a__law_one : PySem.W.nsIn K mainGlobals "_law_one" = some (some (.ref f__law_one)))
    (l__law_one : K.lookup f__law_one = some ⟨oc__law_one, od__law_one, .func (PySem.W.fnOf "_law_one" "_law_one" (defArgs s__law_one) (defBody s__law_one) (defScope s__law_one) .none kV__law_one dc__law_one pm__law_one an__law_one cd__law_one ct__law_one), sl__law_one⟩)
    (c__law_one : PySem.W.codeIn K cd__law_one "_law_one" = true)
    (k__law_one : PySem.W.keepIn K (.ref f__law_one) = true)
    (a__law_words : PySem.W.nsIn K mainGlobals "_law_words" = some (some (.ref f__law_words)))
    (l__law_words : K.lookup f__law_words = some ⟨oc__law_words, od__law_words, .func (PySem.W.fnOf "_law_words" "_law_words" (defArgs s__law_words) (defBody s__law_words) (defScope s__law_words) .none kV__law_words dc__law_words pm__law_words an__law_words cd__law_words ct__law_words), sl__law_words⟩)
    (c__law_words : PySem.W.codeIn K cd__law_words "_law_words" = true)
    (k__law_words : PySem.W.keepIn K (.ref f__law_words) = true)
    (a__law_labels : PySem.W.nsIn K mainGlobals "_law_labels" = some (some (.ref f__law_labels)))
    (l__law_labels : K.lookup f__law_labels = some ⟨oc__law_labels, od__law_labels, .func (PySem.W.fnOf "_law_labels" "_law_labels" (defArgs s__law_labels) (defBody s__law_labels) (defScope s__law_labels) .none kV__law_labels dc__law_labels pm__law_labels an__law_labels cd__law_labels ct__law_labels), sl__law_labels⟩)
    (c__law_labels : PySem.W.codeIn K cd__law_labels "_law_labels" = true)
    (k__law_labels : PySem.W.keepIn K (.ref f__law_labels) = true)
    (a__law_step : PySem.W.nsIn K mainGlobals "_law_step" = some (some (.ref f__law_step)))
    (l__law_step : K.lookup f__law_step = some ⟨oc__law_step, od__law_step, .func (PySem.W.fnOf "_law_step" "_law_step" (defArgs s__law_step) (defBody s__law_step) (defScope s__law_step) .none kV__law_step dc__law_step pm__law_step an__law_step cd__law_step ct__law_step), sl__law_step⟩)
    (c__law_step : PySem.W.codeIn K cd__law_step "_law_step" = true)
    (k__law_step : PySem.W.keepIn K (.ref f__law_step) = true)
    (a__law_body : PySem.W.nsIn K mainGlobals "_law_body" = some (some (.ref f__law_body)))
    (l__law_body : K.lookup f__law_body = some ⟨oc__law_body, od__law_body, .func (PySem.W.fnOf "_law_body" "_law_body" (defArgs s__law_body) (defBody s__law_body) (defScope s__law_body) .none kV__law_body dc__law_body pm__law_body an__law_body cd__law_body ct__law_body), sl__law_body⟩)
    (c__law_body : PySem.W.codeIn K cd__law_body "_law_body" = true)
    (k__law_body : PySem.W.keepIn K (.ref f__law_body) = true)
    (a__law_start : PySem.W.nsIn K mainGlobals "_law_start" = some (some (.ref f__law_start)))
    (l__law_start : K.lookup f__law_start = some ⟨oc__law_start, od__law_start, .func (PySem.W.fnOf "_law_start" "_law_start" (defArgs s__law_start) (defBody s__law_start) (defScope s__law_start) .none kV__law_start dc__law_start pm__law_start an__law_start cd__law_start ct__law_start), sl__law_start⟩)
    (c__law_start : PySem.W.codeIn K cd__law_start "_law_start" = true)
    (k__law_start : PySem.W.keepIn K (.ref f__law_start) = true)
    (a__law_tower : PySem.W.nsIn K mainGlobals "_law_tower" = some (some (.ref f__law_tower)))
    (l__law_tower : K.lookup f__law_tower = some ⟨oc__law_tower, od__law_tower, .func (PySem.W.fnOf "_law_tower" "_law_tower" (defArgs s__law_tower) (defBody s__law_tower) (defScope s__law_tower) .none kV__law_tower dc__law_tower pm__law_tower an__law_tower cd__law_tower ct__law_tower), sl__law_tower⟩)
    (c__law_tower : PySem.W.codeIn K cd__law_tower "_law_tower" = true)
    (k__law_tower : PySem.W.keepIn K (.ref f__law_tower) = true)
    (a__law_block : PySem.W.nsIn K mainGlobals "_law_block" = some (some (.ref f__law_block)))
    (l__law_block : K.lookup f__law_block = some ⟨oc__law_block, od__law_block, .func (PySem.W.fnOf "_law_block" "_law_block" (defArgs s__law_block) (defBody s__law_block) (defScope s__law_block) .none kV__law_block dc__law_block pm__law_block an__law_block cd__law_block ct__law_block), sl__law_block⟩)
    (c__law_block : PySem.W.codeIn K cd__law_block "_law_block" = true)
    (k__law_block : PySem.W.keepIn K (.ref f__law_block) = true)
    (a__law_written : PySem.W.nsIn K mainGlobals "_law_written" = some (some (.ref f__law_written)))
    (l__law_written : K.lookup f__law_written = some ⟨oc__law_written, od__law_written, .func (PySem.W.fnOf "_law_written" "_law_written" (defArgs s__law_written) (defBody s__law_written) (defScope s__law_written) .none kV__law_written dc__law_written pm__law_written an__law_written cd__law_written ct__law_written), sl__law_written⟩)
    (c__law_written : PySem.W.codeIn K cd__law_written "_law_written" = true)
    (k__law_written : PySem.W.keepIn K (.ref f__law_written) = true)
    (a__law_signs : PySem.W.nsIn K mainGlobals "_law_signs" = some (some (.ref f__law_signs)))
    (l__law_signs : K.lookup f__law_signs = some ⟨oc__law_signs, od__law_signs, .func (PySem.W.fnOf "_law_signs" "_law_signs" (defArgs s__law_signs) (defBody s__law_signs) (defScope s__law_signs) .none kV__law_signs dc__law_signs pm__law_signs an__law_signs cd__law_signs ct__law_signs), sl__law_signs⟩)
    (c__law_signs : PySem.W.codeIn K cd__law_signs "_law_signs" = true)
    (k__law_signs : PySem.W.keepIn K (.ref f__law_signs) = true)
    (a__law_curly : PySem.W.nsIn K mainGlobals "_law_curly" = some (some (.ref f__law_curly)))
    (l__law_curly : K.lookup f__law_curly = some ⟨oc__law_curly, od__law_curly, .func (PySem.W.fnOf "_law_curly" "_law_curly" (defArgs s__law_curly) (defBody s__law_curly) (defScope s__law_curly) .none kV__law_curly dc__law_curly pm__law_curly an__law_curly cd__law_curly ct__law_curly), sl__law_curly⟩)
    (c__law_curly : PySem.W.codeIn K cd__law_curly "_law_curly" = true)
    (k__law_curly : PySem.W.keepIn K (.ref f__law_curly) = true)
    (a__law_spread : PySem.W.nsIn K mainGlobals "_law_spread" = some (some (.ref f__law_spread)))
    (l__law_spread : K.lookup f__law_spread = some ⟨oc__law_spread, od__law_spread, .func (PySem.W.fnOf "_law_spread" "_law_spread" (defArgs s__law_spread) (defBody s__law_spread) (defScope s__law_spread) .none kV__law_spread dc__law_spread pm__law_spread an__law_spread cd__law_spread ct__law_spread), sl__law_spread⟩)
    (c__law_spread : PySem.W.codeIn K cd__law_spread "_law_spread" = true)
    (k__law_spread : PySem.W.keepIn K (.ref f__law_spread) = true)
    (a4 : PySem.W.nsIn K mainGlobals "law" = some (some (.ref f4))) (l4 : K.lookup f4 = some ⟨oc4, od4, .func (PySem.W.fnOf "law" "law" (defArgs s_law) (defBody s_law) (defScope s_law) .none kV4 dc4 pm4 an4 cd4 ct4), sl4⟩) (c4 : PySem.W.codeIn K cd4 "law" = true) (k4 : PySem.W.keepIn K (.ref f4) = true) :
    ∃ fd : FuncData, (∀ (s : Shared) (v : Value), BindsTo s fd ⟨[v], []⟩ [("script", v)]) ∧ ∀ base : Heap, K.In base → base.Ns mainGlobals mg → FnOk l.prog w K mg base CX0 60 fa fd ["script"] (spLaw K) := by
  have e := hfa.symm.trans (PySem.W.mg_of X G a4)
  cases e
  have T : Txt K mg ⟨C_RESERVED, C_STEP_WORDS, C_WITH_CLASS, C_WITH_WORD, C_BadText, C_Reader⟩ := {
    b_abs := PySem.W.mg_none_of X G zb_abs
    b_enumerate := PySem.W.mg_none_of X G zb_enumerate
    b_int := PySem.W.mg_none_of X G zb_int
    b_isinstance := PySem.W.mg_none_of X G zb_isinstance
    b_len := PySem.W.mg_none_of X G zb_len
    b_list := PySem.W.mg_none_of X G zb_list
    b_max := PySem.W.mg_none_of X G zb_max
    b_min := PySem.W.mg_none_of X G zb_min
    b_range := PySem.W.mg_none_of X G zb_range
    b_str := PySem.W.mg_none_of X G zb_str
    b_tuple := PySem.W.mg_none_of X G zb_tuple
    g_BLANKS := ⟨_, PySem.W.mg_of X G zc_BLANKS, ⟨_, rfl⟩⟩
    g_CAPITAL := ⟨_, PySem.W.mg_of X G zc_CAPITAL, ⟨_, rfl⟩⟩
    g_DEEPEST := ⟨_, PySem.W.mg_of X G zc_DEEPEST, ⟨_, rfl⟩⟩
    g_LONGEST := ⟨_, PySem.W.mg_of X G zc_LONGEST, ⟨_, rfl⟩⟩
    g_RESERVED := ⟨_, PySem.W.mg_of X G zc_RESERVED, rfl⟩
    t_RESERVED := fun H => .inr ⟨_, _, _, lc_RESERVED, rfl, rfl, (by have := congrArg List.length vc_RESERVED; simp [L_RESERVED] at this; show its_RESERVED.size ≤ sizeLine; rw [this]; decide), vals_of_abs _ _ vc_RESERVED⟩
    g_SMALL := ⟨_, PySem.W.mg_of X G zc_SMALL, ⟨_, rfl⟩⟩
    g_STEP_WORDS := ⟨_, PySem.W.mg_of X G zc_STEP_WORDS, rfl⟩
    t_STEP_WORDS := fun H => .inr ⟨_, _, _, lc_STEP_WORDS, rfl, rfl, (by have := congrArg List.length vc_STEP_WORDS; simp [L_STEP_WORDS] at this; show its_STEP_WORDS.size ≤ sizeLine; rw [this]; decide), vals_of_abs _ _ vc_STEP_WORDS⟩
    g_WITH_CLASS := ⟨_, PySem.W.mg_of X G zc_WITH_CLASS, rfl⟩
    t_WITH_CLASS := fun H => .inr ⟨_, _, _, lc_WITH_CLASS, rfl, rfl, (by have := congrArg List.length vc_WITH_CLASS; simp [L_WITH_CLASS] at this; show its_WITH_CLASS.size ≤ sizeLine; rw [this]; decide), vals_of_abs _ _ vc_WITH_CLASS⟩
    g_WITH_WORD := ⟨_, PySem.W.mg_of X G zc_WITH_WORD, rfl⟩
    t_WITH_WORD := fun H => .inr ⟨_, _, _, lc_WITH_WORD, rfl, rfl, (by have := congrArg List.length vc_WITH_WORD; simp [L_WITH_WORD] at this; show its_WITH_WORD.size ≤ sizeLine; rw [this]; decide), vals_of_abs _ _ vc_WITH_WORD⟩
    k_BadText := PySem.W.mg_of X G aC_BadText
    x_BadText := ⟨⟨_, _, _, _, _, _, _, _, _, _, _, _, _, _, _, xL_BadText, by rfl⟩, sa_BadText, eC_BadText, tC_BadText, kC_BadText⟩
    n_BadText_at := n_BadText_at
    k_Reader := PySem.W.mg_of X G aC_Reader
    cl_Reader := ⟨pg_Reader, hd_Reader, po_Reader, sa_Reader⟩
    n_Reader_tokens := n_Reader_tokens
    n_Reader_length := n_Reader_length
    n_Reader_place := n_Reader_place
    d_BadText___init__ := ⟨_, _, a_BadText___init__, i_BadText___init__, fun_mk (st := s_BadText___init__) l_BadText___init__ c_BadText___init__ k_BadText___init__, (fun_mk (st := s_BadText___init__) l_BadText___init__ c_BadText___init__ k_BadText___init__).binds fun _ _ _ _ _ _ us hl => match us, hl with | [_, _], _ => rfl⟩
    d_tokens_of := ⟨_, _, fun_mk (st := s_tokens_of) l_tokens_of c_tokens_of k_tokens_of, PySem.W.mg_of X G a_tokens_of, (fun_mk (st := s_tokens_of) l_tokens_of c_tokens_of k_tokens_of).binds fun _ _ _ _ _ _ us hl => match us, hl with | [_], _ => rfl⟩
    d_token_end := ⟨_, _, fun_mk (st := s_token_end) l_token_end c_token_end k_token_end, PySem.W.mg_of X G a_token_end, (fun_mk (st := s_token_end) l_token_end c_token_end k_token_end).binds fun _ _ _ _ _ _ us hl => match us, hl with | [_, _], _ => rfl⟩
    d_is_letter := ⟨_, _, fun_mk (st := s_is_letter) l_is_letter c_is_letter k_is_letter, PySem.W.mg_of X G a_is_letter, (fun_mk (st := s_is_letter) l_is_letter c_is_letter k_is_letter).binds fun _ _ _ _ _ _ us hl => match us, hl with | [_], _ => rfl⟩
    d_fits_word := ⟨_, _, fun_mk (st := s_fits_word) l_fits_word c_fits_word k_fits_word, PySem.W.mg_of X G a_fits_word, (fun_mk (st := s_fits_word) l_fits_word c_fits_word k_fits_word).binds fun _ _ _ _ _ _ us hl => match us, hl with | [_], _ => rfl⟩
    d_fits_class := ⟨_, _, fun_mk (st := s_fits_class) l_fits_class c_fits_class k_fits_class, PySem.W.mg_of X G a_fits_class, (fun_mk (st := s_fits_class) l_fits_class c_fits_class k_fits_class).binds fun _ _ _ _ _ _ us hl => match us, hl with | [_], _ => rfl⟩
    d_all_small := ⟨_, _, fun_mk (st := s_all_small) l_all_small c_all_small k_all_small, PySem.W.mg_of X G a_all_small, (fun_mk (st := s_all_small) l_all_small c_all_small k_all_small).binds fun _ _ _ _ _ _ us hl => match us, hl with | [_], _ => rfl⟩
    d_Reader___init__ := ⟨_, _, ⟨mk_Reader, a_Reader___init__, i_Reader___init__, kc_Reader⟩, fun_mk (st := s_Reader___init__) l_Reader___init__ c_Reader___init__ k_Reader___init__, (fun_mk (st := s_Reader___init__) l_Reader___init__ c_Reader___init__ k_Reader___init__).binds fun _ _ _ _ _ _ us hl => match us, hl with | [_, _], _ => rfl⟩
    d_Reader_token := ⟨_, _, ⟨a_Reader_token, i_Reader_token, k_Reader_token⟩, fun_mk (st := s_Reader_token) l_Reader_token c_Reader_token k_Reader_token, (fun_mk (st := s_Reader_token) l_Reader_token c_Reader_token k_Reader_token).binds fun _ _ _ _ _ _ us hl => match us, hl with | [_], _ => rfl⟩
    d_Reader_position := ⟨_, _, ⟨a_Reader_position, i_Reader_position, k_Reader_position⟩, fun_mk (st := s_Reader_position) l_Reader_position c_Reader_position k_Reader_position, (fun_mk (st := s_Reader_position) l_Reader_position c_Reader_position k_Reader_position).binds fun _ _ _ _ _ _ us hl => match us, hl with | [_], _ => rfl⟩
    d_Reader_advance := ⟨_, _, ⟨a_Reader_advance, i_Reader_advance, k_Reader_advance⟩, fun_mk (st := s_Reader_advance) l_Reader_advance c_Reader_advance k_Reader_advance, (fun_mk (st := s_Reader_advance) l_Reader_advance c_Reader_advance k_Reader_advance).binds fun _ _ _ _ _ _ us hl => match us, hl with | [_], _ => rfl⟩
    d_Reader_take := ⟨_, _, ⟨a_Reader_take, i_Reader_take, k_Reader_take⟩, fun_mk (st := s_Reader_take) l_Reader_take c_Reader_take k_Reader_take, (fun_mk (st := s_Reader_take) l_Reader_take c_Reader_take k_Reader_take).binds fun _ _ _ _ _ _ us hl => match us, hl with | [_, _], _ => rfl⟩
    d_Reader_take_word := ⟨_, _, ⟨a_Reader_take_word, i_Reader_take_word, k_Reader_take_word⟩, fun_mk (st := s_Reader_take_word) l_Reader_take_word c_Reader_take_word k_Reader_take_word, (fun_mk (st := s_Reader_take_word) l_Reader_take_word c_Reader_take_word k_Reader_take_word).binds fun _ _ _ _ _ _ us hl => match us, hl with | [_], _ => rfl⟩
    d_Reader_take_class := ⟨_, _, ⟨a_Reader_take_class, i_Reader_take_class, k_Reader_take_class⟩, fun_mk (st := s_Reader_take_class) l_Reader_take_class c_Reader_take_class k_Reader_take_class, (fun_mk (st := s_Reader_take_class) l_Reader_take_class c_Reader_take_class k_Reader_take_class).binds fun _ _ _ _ _ _ us hl => match us, hl with | [_], _ => rfl⟩
    d_Reader_finish := ⟨_, _, ⟨a_Reader_finish, i_Reader_finish, k_Reader_finish⟩, fun_mk (st := s_Reader_finish) l_Reader_finish c_Reader_finish k_Reader_finish, (fun_mk (st := s_Reader_finish) l_Reader_finish c_Reader_finish k_Reader_finish).binds fun _ _ _ _ _ _ us hl => match us, hl with | [_], _ => rfl⟩
    d_read_body := ⟨_, _, fun_mk (st := s_read_body) l_read_body c_read_body k_read_body, PySem.W.mg_of X G a_read_body, (fun_mk (st := s_read_body) l_read_body c_read_body k_read_body).binds fun _ _ _ _ _ _ us hl => match us, hl with | [_, _], _ => rfl⟩
    d_read_step := ⟨_, _, fun_mk (st := s_read_step) l_read_step c_read_step k_read_step, PySem.W.mg_of X G a_read_step, (fun_mk (st := s_read_step) l_read_step c_read_step k_read_step).binds fun _ _ _ _ _ _ us hl => match us, hl with | [_, _], _ => rfl⟩
    d_read_if := ⟨_, _, fun_mk (st := s_read_if) l_read_if c_read_if k_read_if, PySem.W.mg_of X G a_read_if, (fun_mk (st := s_read_if) l_read_if c_read_if k_read_if).binds fun _ _ _ _ _ _ us hl => match us, hl with | [_, _], _ => rfl⟩
    d_read_try := ⟨_, _, fun_mk (st := s_read_try) l_read_try c_read_try k_read_try, PySem.W.mg_of X G a_read_try, (fun_mk (st := s_read_try) l_read_try c_read_try k_read_try).binds fun _ _ _ _ _ _ us hl => match us, hl with | [_, _], _ => rfl⟩
    d_read_either := ⟨_, _, fun_mk (st := s_read_either) l_read_either c_read_either k_read_either, PySem.W.mg_of X G a_read_either, (fun_mk (st := s_read_either) l_read_either c_read_either k_read_either).binds fun _ _ _ _ _ _ us hl => match us, hl with | [_, _], _ => rfl⟩
    d_read_block := ⟨_, _, fun_mk (st := s_read_block) l_read_block c_read_block k_read_block, PySem.W.mg_of X G a_read_block, (fun_mk (st := s_read_block) l_read_block c_read_block k_read_block).binds fun _ _ _ _ _ _ us hl => match us, hl with | [_, _], _ => rfl⟩
    d_read_braces := ⟨_, _, fun_mk (st := s_read_braces) l_read_braces c_read_braces k_read_braces, PySem.W.mg_of X G a_read_braces, (fun_mk (st := s_read_braces) l_read_braces c_read_braces k_read_braces).binds fun _ _ _ _ _ _ us hl => match us, hl with | [_, _], _ => rfl⟩
    d_read_steps := ⟨_, _, fun_mk (st := s_read_steps) l_read_steps c_read_steps k_read_steps, PySem.W.mg_of X G a_read_steps, (fun_mk (st := s_read_steps) l_read_steps c_read_steps k_read_steps).binds fun _ _ _ _ _ _ us hl => match us, hl with | [_], _ => rfl⟩
    d_write_steps := ⟨_, _, fun_mk (st := s_write_steps) l_write_steps c_write_steps k_write_steps, PySem.W.mg_of X G a_write_steps, (fun_mk (st := s_write_steps) l_write_steps c_write_steps k_write_steps).binds fun _ _ _ _ _ _ us hl => match us, hl with | [_], _ => rfl⟩
    d_write_step := ⟨_, _, fun_mk (st := s_write_step) l_write_step c_write_step k_write_step, PySem.W.mg_of X G a_write_step, (fun_mk (st := s_write_step) l_write_step c_write_step k_write_step).binds fun _ _ _ _ _ _ us hl => match us, hl with | [_], _ => rfl⟩
    d_write_block := ⟨_, _, fun_mk (st := s_write_block) l_write_block c_write_block k_write_block, PySem.W.mg_of X G a_write_block, (fun_mk (st := s_write_block) l_write_block c_write_block k_write_block).binds fun _ _ _ _ _ _ us hl => match us, hl with | [_], _ => rfl⟩
    d__law_bag := ⟨_, _, fun_mk (st := s__law_bag) l__law_bag c__law_bag k__law_bag, PySem.W.mg_of X G a__law_bag, (fun_mk (st := s__law_bag) l__law_bag c__law_bag k__law_bag).binds fun _ _ _ _ _ _ us hl => match us, hl with | [_, _], _ => rfl⟩
    d__law_draw := ⟨_, _, fun_mk (st := s__law_draw) l__law_draw c__law_draw k__law_draw, PySem.W.mg_of X G a__law_draw, (fun_mk (st := s__law_draw) l__law_draw c__law_draw k__law_draw).binds fun _ _ _ _ _ _ us hl => match us, hl with | [_, _], _ => rfl⟩
    d__law_one := ⟨_, _, fun_mk (st := s__law_one) l__law_one c__law_one k__law_one, PySem.W.mg_of X G a__law_one, (fun_mk (st := s__law_one) l__law_one c__law_one k__law_one).binds fun _ _ _ _ _ _ us hl => match us, hl with | [_, _], _ => rfl⟩
    d__law_words := ⟨_, _, fun_mk (st := s__law_words) l__law_words c__law_words k__law_words, PySem.W.mg_of X G a__law_words, (fun_mk (st := s__law_words) l__law_words c__law_words k__law_words).binds fun _ _ _ _ _ _ us hl => match us, hl with | [_, _], _ => rfl⟩
    d__law_labels := ⟨_, _, fun_mk (st := s__law_labels) l__law_labels c__law_labels k__law_labels, PySem.W.mg_of X G a__law_labels, (fun_mk (st := s__law_labels) l__law_labels c__law_labels k__law_labels).binds fun _ _ _ _ _ _ us hl => match us, hl with | [_, _], _ => rfl⟩
    d__law_step := ⟨_, _, fun_mk (st := s__law_step) l__law_step c__law_step k__law_step, PySem.W.mg_of X G a__law_step, (fun_mk (st := s__law_step) l__law_step c__law_step k__law_step).binds fun _ _ _ _ _ _ us hl => match us, hl with | [_, _, _, _], _ => rfl⟩
    d__law_body := ⟨_, _, fun_mk (st := s__law_body) l__law_body c__law_body k__law_body, PySem.W.mg_of X G a__law_body, (fun_mk (st := s__law_body) l__law_body c__law_body k__law_body).binds fun _ _ _ _ _ _ us hl => match us, hl with | [_, _, _, _], _ => rfl⟩
    d__law_start := ⟨_, _, fun_mk (st := s__law_start) l__law_start c__law_start k__law_start, PySem.W.mg_of X G a__law_start, (fun_mk (st := s__law_start) l__law_start c__law_start k__law_start).binds fun _ _ _ _ _ _ us hl => match us, hl with | [_], _ => rfl⟩
    d__law_tower := ⟨_, _, fun_mk (st := s__law_tower) l__law_tower c__law_tower k__law_tower, PySem.W.mg_of X G a__law_tower, (fun_mk (st := s__law_tower) l__law_tower c__law_tower k__law_tower).binds fun _ _ _ _ _ _ us hl => match us, hl with | [_, _, _, _], _ => rfl⟩
    d__law_block := ⟨_, _, fun_mk (st := s__law_block) l__law_block c__law_block k__law_block, PySem.W.mg_of X G a__law_block, (fun_mk (st := s__law_block) l__law_block c__law_block k__law_block).binds fun _ _ _ _ _ _ us hl => match us, hl with | [_], _ => rfl⟩
    d__law_written := ⟨_, _, fun_mk (st := s__law_written) l__law_written c__law_written k__law_written, PySem.W.mg_of X G a__law_written, (fun_mk (st := s__law_written) l__law_written c__law_written k__law_written).binds fun _ _ _ _ _ _ us hl => match us, hl with | [_], _ => rfl⟩
    d__law_signs := ⟨_, _, fun_mk (st := s__law_signs) l__law_signs c__law_signs k__law_signs, PySem.W.mg_of X G a__law_signs, (fun_mk (st := s__law_signs) l__law_signs c__law_signs k__law_signs).binds fun _ _ _ _ _ _ us hl => match us, hl with | [_], _ => rfl⟩
    d__law_curly := ⟨_, _, fun_mk (st := s__law_curly) l__law_curly c__law_curly k__law_curly, PySem.W.mg_of X G a__law_curly, (fun_mk (st := s__law_curly) l__law_curly c__law_curly k__law_curly).binds fun _ _ _ _ _ _ us hl => match us, hl with | [_], _ => rfl⟩
    d__law_spread := ⟨_, _, fun_mk (st := s__law_spread) l__law_spread c__law_spread k__law_spread, PySem.W.mg_of X G a__law_spread, (fun_mk (st := s__law_spread) l__law_spread c__law_spread k__law_spread).binds fun _ _ _ _ _ _ us hl => match us, hl with | [_, _], _ => rfl⟩
  }
  have F4 := fun_mk (st := s_law) l4 c4 k4
  exact ⟨PySem.W.fnOf "law" "law" (defArgs s_law) (defBody s_law) (defScope s_law) .none kV4 dc4 pm4 an4 cd4 ct4, fun s v => .of_eq rfl, fun base _ _ => ok_law F4 T⟩
theorem walk {l : PySem.W.OpenLaw} {q : Program} {loose : List Str} {XP : (Str → Option Value) → Heap → Prop} {YP : World → Heap → Prop} {d : DefRec} {K : Params → PySem.W.Frag} (hn : l.most = some 63) (hdf : d.params.defaults = [])
    (hY : ∀ (w : World) (h : Heap), YP w h → (K w.params).In h)
    (F : ∀ (w : World) (mg : Str → Option Value) (fa : Addr) (h : Heap), (K w.params).In h → h.Ns mainGlobals mg → mg d.name = some (.ref fa) →
      ∃ fd : FuncData, (∀ (s : Shared) (u : Value), BindsTo s fd ⟨[u], []⟩ [("script", u)]) ∧ ∀ base : Heap, (K w.params).In base → base.Ns mainGlobals mg → FnOk l.prog w (K w.params) mg base CX0 60 fa fd ["script"] (spLaw (K w.params))) :
    PySem.W.WalkO q loose XP YP l.row.toRowW d [] (fun f vs => PySem.call f vs) :=
  L2.walk_of (n := 63) (k := 60) (x := "script") (CX := fun _ => CX0) (sp := fun w => spLaw (K w.params)) hn (by decide) hdf ⟨rfl, by decide, by decide⟩ hY F (fun _ _ a ns hl _ hS => ⟨a, ns, rfl, hS, hl, fun _ => rfl⟩) fun _ _ _ _ _ z => z
end Kn
open PySem PySem.W PyProof.Rows
set_option maxRecDepth 100000 in
set_option maxHeartbeats 0 in
theorem PySem.Challenge.cw_earlyfields_k02_bodies_read_holds : PySem.Challenge.rw_earlyfields_k02_bodies_read.Holds := by
  w_on; o_law; k_head; (case hw => w_witness2)
  k_fill
  refine Kn.walk (l := PySem.Challenge.rw_earlyfields_k02_bodies_read) rfl rfl (fun w h Y => PySem.W.kIn_of Y) ?F
  case F =>
    intro w mg fa h KX G hmg
    refine' Kn.all_mk KX G hmg ?zb_abs ?zb_enumerate ?zb_int ?zb_isinstance ?zb_len ?zb_list ?zb_max ?zb_min ?zb_range ?zb_str ?zb_tuple ?zc_BLANKS ?zc_CAPITAL ?zc_DEEPEST ?zc_LONGEST ?zc_RESERVED ?lc_RESERVED ?vc_RESERVED ?zc_SMALL ?zc_STEP_WORDS ?lc_STEP_WORDS ?vc_STEP_WORDS ?zc_WITH_CLASS ?lc_WITH_CLASS ?vc_WITH_CLASS ?zc_WITH_WORD ?lc_WITH_WORD ?vc_WITH_WORD ?aC_BadText ?xL_BadText ?sa_BadText ?eC_BadText ?tC_BadText ?kC_BadText ?n_BadText_at ?aC_Reader ?pg_Reader ?hd_Reader ?po_Reader ?sa_Reader ?mk_Reader ?kc_Reader ?n_Reader_tokens ?n_Reader_length ?n_Reader_place ?a_BadText___init__ ?l_BadText___init__ ?c_BadText___init__ ?k_BadText___init__ ?i_BadText___init__ ?a_tokens_of ?l_tokens_of ?c_tokens_of ?k_tokens_of ?a_token_end ?l_token_end ?c_token_end ?k_token_end ?a_is_letter ?l_is_letter ?c_is_letter ?k_is_letter ?a_fits_word ?l_fits_word ?c_fits_word ?k_fits_word ?a_fits_class ?l_fits_class ?c_fits_class ?k_fits_class ?a_all_small ?l_all_small ?c_all_small ?k_all_small ?a_Reader___init__ ?l_Reader___init__ ?c_Reader___init__ ?k_Reader___init__ ?i_Reader___init__ ?a_Reader_token ?l_Reader_token ?c_Reader_token ?k_Reader_token ?i_Reader_token ?a_Reader_position ?l_Reader_position ?c_Reader_position ?k_Reader_position ?i_Reader_position ?a_Reader_advance ?l_Reader_advance ?c_Reader_advance ?k_Reader_advance ?i_Reader_advance ?a_Reader_take ?l_Reader_take ?c_Reader_take ?k_Reader_take ?i_Reader_take ?a_Reader_take_word ?l_Reader_take_word ?c_Reader_take_word ?k_Reader_take_word ?i_Reader_take_word ?a_Reader_take_class ?l_Reader_take_class ?c_Reader_take_class ?k_Reader_take_class ?i_Reader_take_class ?a_Reader_finish ?l_Reader_finish ?c_Reader_finish ?k_Reader_finish ?i_Reader_finish ?a_read_body ?l_read_body ?c_read_body ?k_read_body ?a_read_step ?l_read_step ?c_read_step ?k_read_step ?a_read_if ?l_read_if ?c_read_if ?k_read_if ?a_read_try ?l_read_try ?c_read_try ?k_read_try ?a_read_either ?l_read_either ?c_read_either ?k_read_either ?a_read_block ?l_read_block ?c_read_block ?k_read_block ?a_read_braces ?l_read_braces ?c_read_braces ?k_read_braces ?a_read_steps ?l_read_steps ?c_read_steps ?k_read_steps ?a_write_steps ?l_write_steps ?c_write_steps ?k_write_steps ?a_write_step ?l_write_step ?c_write_step ?k_write_step ?a_write_block ?l_write_block ?c_write_block ?k_write_block ?a__law_bag ?l__law_bag ?c__law_bag ?k__law_bag ?a__law_draw ?l__law_draw ?c__law_draw ?k__law_draw ?a__law_one ?l__law_one ?c__law_one ?k__law_one ?a__law_words ?l__law_words ?c__law_words ?k__law_words ?a__law_labels ?l__law_labels ?c__law_labels ?k__law_labels ?a__law_step ?l__law_step ?c__law_step ?k__law_step ?a__law_body ?l__law_body ?c__law_body ?k__law_body ?a__law_start ?l__law_start ?c__law_start ?k__law_start ?a__law_tower ?l__law_tower ?c__law_tower ?k__law_tower ?a__law_block ?l__law_block ?c__law_block ?k__law_block ?a__law_written ?l__law_written ?c__law_written ?k__law_written ?a__law_signs ?l__law_signs ?c__law_signs ?k__law_signs ?a__law_curly ?l__law_curly ?c__law_curly ?k__law_curly ?a__law_spread ?l__law_spread ?c__law_spread ?k__law_spread ?a4 ?l4 ?c4 ?k4
    (case zb_abs => k_is)
    (case zb_enumerate => k_is)
    (case zb_int => k_is)
    (case zb_isinstance => k_is)
    (case zb_len => k_is)
    (case zb_list => k_is)
    (case zb_max => k_is)
    (case zb_min => k_is)
    (case zb_range => k_is)
    (case zb_str => k_is)
    (case zb_tuple => k_is)
    (case zc_BLANKS => k_is)
    (case zc_CAPITAL => k_is)
    (case zc_DEEPEST => k_is)
    (case zc_LONGEST => k_is)
    (case zc_RESERVED => k_is)
    (case lc_RESERVED => k_is)
    (case zc_SMALL => k_is)
    (case zc_STEP_WORDS => k_is)
    (case lc_STEP_WORDS => k_is)
    (case zc_WITH_CLASS => k_is)
    (case lc_WITH_CLASS => k_is)
    (case zc_WITH_WORD => k_is)
    (case lc_WITH_WORD => k_is)
    (case aC_BadText => k_is)
    (case xL_BadText => k_is)
    (case sa_BadText => k_is)
    (case eC_BadText => k_is)
    (case tC_BadText => k_is)
    (case kC_BadText => k_is)
    (case n_BadText_at => k_is)
    (case aC_Reader => k_is)
    (case pg_Reader => k_is)
    (case hd_Reader => k_is)
    (case po_Reader => k_is)
    (case sa_Reader => k_is)
    (case mk_Reader => k_is)
    (case kc_Reader => k_is)
    (case n_Reader_tokens => k_is)
    (case n_Reader_length => k_is)
    (case n_Reader_place => k_is)
    (case a_BadText___init__ => k_is)
    (case l_BadText___init__ => k_is)
    (case c_BadText___init__ => k_is)
    (case k_BadText___init__ => k_is)
    (case i_BadText___init__ => k_is)
    (case a_tokens_of => k_is)
    (case l_tokens_of => k_is)
    (case c_tokens_of => k_is)
    (case k_tokens_of => k_is)
    (case a_token_end => k_is)
    (case l_token_end => k_is)
    (case c_token_end => k_is)
    (case k_token_end => k_is)
    (case a_is_letter => k_is)
    (case l_is_letter => k_is)
    (case c_is_letter => k_is)
    (case k_is_letter => k_is)
    (case a_fits_word => k_is)
    (case l_fits_word => k_is)
    (case c_fits_word => k_is)
    (case k_fits_word => k_is)
    (case a_fits_class => k_is)
    (case l_fits_class => k_is)
    (case c_fits_class => k_is)
    (case k_fits_class => k_is)
    (case a_all_small => k_is)
    (case l_all_small => k_is)
    (case c_all_small => k_is)
    (case k_all_small => k_is)
    (case a_Reader___init__ => k_is)
    (case l_Reader___init__ => k_is)
    (case c_Reader___init__ => k_is)
    (case k_Reader___init__ => k_is)
    (case i_Reader___init__ => k_is)
    (case a_Reader_token => k_is)
    (case l_Reader_token => k_is)
    (case c_Reader_token => k_is)
    (case k_Reader_token => k_is)
    (case i_Reader_token => k_is)
    (case a_Reader_position => k_is)
    (case l_Reader_position => k_is)
    (case c_Reader_position => k_is)
    (case k_Reader_position => k_is)
    (case i_Reader_position => k_is)
    (case a_Reader_advance => k_is)
    (case l_Reader_advance => k_is)
    (case c_Reader_advance => k_is)
    (case k_Reader_advance => k_is)
    (case i_Reader_advance => k_is)
    (case a_Reader_take => k_is)
    (case l_Reader_take => k_is)
    (case c_Reader_take => k_is)
    (case k_Reader_take => k_is)
    (case i_Reader_take => k_is)
    (case a_Reader_take_word => k_is)
    (case l_Reader_take_word => k_is)
    (case c_Reader_take_word => k_is)
    (case k_Reader_take_word => k_is)
    (case i_Reader_take_word => k_is)
    (case a_Reader_take_class => k_is)
    (case l_Reader_take_class => k_is)
    (case c_Reader_take_class => k_is)
    (case k_Reader_take_class => k_is)
    (case i_Reader_take_class => k_is)
    (case a_Reader_finish => k_is)
    (case l_Reader_finish => k_is)
    (case c_Reader_finish => k_is)
    (case k_Reader_finish => k_is)
    (case i_Reader_finish => k_is)
    (case a_read_body => k_is)
    (case l_read_body => k_is)
    (case c_read_body => k_is)
    (case k_read_body => k_is)
    (case a_read_step => k_is)
    (case l_read_step => k_is)
    (case c_read_step => k_is)
    (case k_read_step => k_is)
    (case a_read_if => k_is)
    (case l_read_if => k_is)
    (case c_read_if => k_is)
    (case k_read_if => k_is)
    (case a_read_try => k_is)
    (case l_read_try => k_is)
    (case c_read_try => k_is)
    (case k_read_try => k_is)
    (case a_read_either => k_is)
    (case l_read_either => k_is)
    (case c_read_either => k_is)
    (case k_read_either => k_is)
    (case a_read_block => k_is)
    (case l_read_block => k_is)
    (case c_read_block => k_is)
    (case k_read_block => k_is)
    (case a_read_braces => k_is)
    (case l_read_braces => k_is)
    (case c_read_braces => k_is)
    (case k_read_braces => k_is)
    (case a_read_steps => k_is)
    (case l_read_steps => k_is)
    (case c_read_steps => k_is)
    (case k_read_steps => k_is)
    (case a_write_steps => k_is)
    (case l_write_steps => k_is)
    (case c_write_steps => k_is)
    (case k_write_steps => k_is)
    (case a_write_step => k_is)
    (case l_write_step => k_is)
    (case c_write_step => k_is)
    (case k_write_step => k_is)
    (case a_write_block => k_is)
    (case l_write_block => k_is)
    (case c_write_block => k_is)
    (case k_write_block => k_is)
    (case a__law_bag => k_is)
    (case l__law_bag => k_is)
    (case c__law_bag => k_is)
    (case k__law_bag => k_is)
    (case a__law_draw => k_is)
    (case l__law_draw => k_is)
    (case c__law_draw => k_is)
    (case k__law_draw => k_is)
    (case a__law_one => k_is)
    (case l__law_one => k_is)
    (case c__law_one => k_is)
    (case k__law_one => k_is)
    (case a__law_words => k_is)
    (case l__law_words => k_is)
    (case c__law_words => k_is)
    (case k__law_words => k_is)
    (case a__law_labels => k_is)
    (case l__law_labels => k_is)
    (case c__law_labels => k_is)
    (case k__law_labels => k_is)
    (case a__law_step => k_is)
    (case l__law_step => k_is)
    (case c__law_step => k_is)
    (case k__law_step => k_is)
    (case a__law_body => k_is)
    (case l__law_body => k_is)
    (case c__law_body => k_is)
    (case k__law_body => k_is)
    (case a__law_start => k_is)
    (case l__law_start => k_is)
    (case c__law_start => k_is)
    (case k__law_start => k_is)
    (case a__law_tower => k_is)
    (case l__law_tower => k_is)
    (case c__law_tower => k_is)
    (case k__law_tower => k_is)
    (case a__law_block => k_is)
    (case l__law_block => k_is)
    (case c__law_block => k_is)
    (case k__law_block => k_is)
    (case a__law_written => k_is)
    (case l__law_written => k_is)
    (case c__law_written => k_is)
    (case k__law_written => k_is)
    (case a__law_signs => k_is)
    (case l__law_signs => k_is)
    (case c__law_signs => k_is)
    (case k__law_signs => k_is)
    (case a__law_curly => k_is)
    (case l__law_curly => k_is)
    (case c__law_curly => k_is)
    (case k__law_curly => k_is)
    (case a__law_spread => k_is)
    (case l__law_spread => k_is)
    (case c__law_spread => k_is)
    (case k__law_spread => k_is)
    (case a4 => k_is)
    (case l4 => k_is)
    (case c4 => k_is)
    (case k4 => k_is)
    (case vc_RESERVED => rfl)
    (case vc_STEP_WORDS => rfl)
    (case vc_WITH_CLASS => rfl)
    (case vc_WITH_WORD => rfl)
#print axioms PySem.Challenge.cw_earlyfields_k02_bodies_read_holds
