import PyProof.Rows.All
import Wide.All
import OpenK.AllK
import Wide.FinOn
import HandS.ForMost
import HandS.IsInst
import HandS.Walk
import HandS.Wide
import PySem.Challenge.RW_pileups_k01_kinds_of_words
set_option Elab.async false
set_option linter.all false
set_option maxRecDepth 100000
set_option maxHeartbeats 2000000
/-! short rules for what the texts of this program write, whatever the kinds of the values are -/
namespace Pu
open PySem PySem.Spec PyProof.Rows L2
/-! ### rules with several readings -/
section
variable {X : Cx}
theorem pe_gi {x : Str} {pos : Pos} {n : Int} (hg : Gl X x) (hm : ∃ t, X.mg x = some (.int n t)) (hd : (x == ("__debug__" : Str)) = false := by decide) : PE X (.Name x pos) (tC (.int n)) := by
  obtain ⟨t, h⟩ := hm
  exact pe_glob hg h ⟨_, rfl⟩ hd
theorem pe_gs {x : Str} {pos : Pos} {z : Str} (hg : Gl X x) (hm : ∃ t, X.mg x = some (.str z t)) (hd : (x == ("__debug__" : Str)) = false := by decide) : PE X (.Name x pos) (tC (.str z)) := by
  obtain ⟨t, h⟩ := hm
  exact pe_glob hg h ⟨_, rfl⟩ hd
/-- a + b: ints, or texts, or lists -/
theorem oAdd : OpR X (binaryOp .Add) (fun x y H Q => rI0 (fun i j => .int (i + j)) x y H Q ∨ ((∃ i j, x = .str i ∧ y = .str j ∧ i.length + j.length ≤ sizeLine ∧ Q (.str (i ++ j)) H) ∨ rCat x y H Q)) := op_add.or (op_add_str.or op_cat)
/-! the same with the written part by name: inside a comprehension the context is another, K is not -/
theorem oIn (K : PySem.W.Frag) (h : X.K = K := by rfl) : OpR X (compareOp .In) (fun x y H Q => (∃ (c : Nat) (z : Str), x = .str ⟨#[c]⟩ ∧ y = .str z ∧ Q (.bl (decide (c ∈ z.cps.toList))) H) ∨ rIn K false x y H Q) := by
  subst h
  exact op_in_sign.or op_in_seq
theorem oNotIn (K : PySem.W.Frag) (h : X.K = K := by rfl) : OpR X (compareOp .NotIn) (fun x y H Q => (∃ (c : Nat) (z : Str), x = .str ⟨#[c]⟩ ∧ y = .str z ∧ Q (.bl (!decide (c ∈ z.cps.toList))) H) ∨ rIn K true x y H Q) := by
  subst h
  exact op_notIn_sign.or op_notIn_seq
theorem ixL (K : PySem.W.Frag) (h : X.K = K := by rfl) : IxR X (rIxL K) := by
  subst h
  exact ix_list
theorem ixT (K : PySem.W.Frag) (h : X.K = K := by rfl) : IxR X (rIxT K) := by
  subst h
  exact ix_tup
theorem slL (K : PySem.W.Frag) (h : X.K = K := by rfl) : SlR X (rSlL K) := by
  subst h
  exact sl_list
theorem slT (K : PySem.W.Frag) (h : X.K = K := by rfl) : SlR X (rSlT K) := by
  subst h
  exact sl_tup
theorem isiK (K : PySem.W.Frag) (h : X.K = K := by rfl) : CallR X (.builtin "isinstance") (rIsi K) := by
  subst h
  exact call_isi
/-- len(x): a list, a tuple, or a text -/
theorem lenK (K : PySem.W.Frag) (h : X.K = K := by rfl) : CallR X (.builtin "len") (fun xs H Q => (∃ p ys, xs = [.ref p] ∧ (SqL K H p ys ∨ SqT K H p ys) ∧ Q (.int ys.length) H) ∨ ∃ z, xs = [.str z] ∧ z.length ≤ sizeLine ∧ Q (.int z.length) H) := by
  subst h
  exact call_len_seq.or call_len_str
end
/-! ### a def of the module, as its callers see it -/
structure Cal (P : Program) (w : World) (K : PySem.W.Frag) (mg : Str → Option Value) (base : Heap) (k : Nat) (x : Str) (sp : Sp) (dvs : List V) : Prop where
  ex : ∃ (f : Addr) (fd : FuncData) (ps : List Str) (ds : List Value), FnOk P w K mg base CX0 k f fd ps sp ∧ mg x = some (.ref f) ∧ PySem.W.keepIn K (.ref f) = true ∧ Binds K fd ps ds ∧ Vals dvs ds
theorem Cal.mk0 {P : Program} {w : World} {K : PySem.W.Frag} {mg : Str → Option Value} {base : Heap} {k : Nat} {x : Str} {sp : Sp} {f : Addr} {fd : FuncData} {ps : List Str} (F : FnOk P w K mg base CX0 k f fd ps sp) (hm : mg x = some (.ref f)) (kp : PySem.W.keepIn K (.ref f) = true) (b : Binds K fd ps []) : Cal P w K mg base k x sp [] :=
  ⟨f, fd, ps, [], F, hm, kp, b, .nil⟩
theorem pe_c {X : Cx} {k j : Nat} {x : Str} {sp : Sp} {dvs : List V} {e : Expr} {es : List Expr} {t : TA} {p pos : Pos} (c : Cal X.prog X.w X.K X.mg X.base k x sp dvs) (hr : Room j X.A) (hk : k ≤ j) (hg : Gl X x) (ha : PA X (e :: es) t)
    (hdb : (x == ("__debug__" : Str)) = false := by decide) (he : starEach (e :: es) X.env = (false, eval e X.env) :: starEach es X.env := by rfl) (hpl : (backTo pos (starEach es X.env)).any (·.1) = false := by rfl) :
    PE X (.Call (.Name x p) (e :: es) [] pos) (tCall sp dvs E0 t) := by
  obtain ⟨f, fd, ps, ds, F, hm, kp, b, d⟩ := c.ex
  exact pe_call F (hr.mono hk) hg hm kp b d pass0 ha hdb he hpl
/-! ### a statement, then the rest, with a word of ours between them -/
def tCut (t u : TS) : TS := fun D σ H => ∃ Mid : L2.St → Hp → Prop, t { D with nx := Mid } σ H ∧ ∀ σ' H', Mid σ' H' → u D σ' H'
theorem pss_cut {X : Cx} {st : Stmt} {rest : List Stmt} {t u : TS} (h1 : PS X st t) (h2 : PSs X rest u) : PSs X (st :: rest) (tCut t u) := by
  refine ⟨fun pins s σ H D I ⟨Mid, hm, hu⟩ => ?_⟩
  refine wpAny_execs_cons (thn (h1.run pins s σ H { D with nx := Mid } I hm) fun f s1 q => ?_)
  cases f with
  | next =>
    obtain ⟨σ', H', I', q⟩ := q
    exact h2.run pins s1 σ' H' D I' (hu σ' H' q)
  | ret v => exact q
  | brk => exact q
  | cont => exact q
theorem same_upd {H : Hp} {p : Addr} {o : HO} (h : H p = none) : Same H (upd H p o) := fun b x e => by
  rw [upd_ne (ne_of_none e h)]
  exact e
/-! ### heaps that only grow, but for one object -/
def Ext (b : Addr) (H H' : Hp) : Prop := ∀ a o, a ≠ b → H a = some o → H' a = some o
theorem Ext.refl {b : Addr} (H : Hp) : Ext b H H := fun _ _ _ h => h
theorem Ext.trans {b : Addr} {H H1 H2 : Hp} (e : Ext b H H1) (f : Ext b H1 H2) : Ext b H H2 := fun a o n h => f a o n (e a o n h)
theorem Ext.new {b p : Addr} {H : Hp} {o : HO} (h : H p = none) : Ext b H (upd H p o) := fun a o _ e => by
  rw [upd_ne (ne_of_none e h)]
  exact e
theorem Ext.at {b : Addr} {H : Hp} {o : HO} : Ext b H (upd H b o) := fun a u n e => by
  rw [upd_ne n]
  exact e
theorem Ext.mut {b p : Addr} {H H' : Hp} {o : HO} (e : Ext b H H') (h : H p = none) : Ext b H (upd H' p o) := fun a u n ha => by
  rw [upd_ne (ne_of_none ha h)]
  exact e a u n ha
/-! ### the three numbers that a law draws from -/
def Box (H : Hp) (b : Addr) (n : Int) : Prop := ∃ x y z : Int, H b = some (.lst [.int x, .int y, .int z]) ∧ 0 ≤ x ∧ 0 ≤ y ∧ y < 2147483648 ∧ 0 ≤ z ∧ z ≤ n
theorem Box.new {H : Hp} {b p : Addr} {n : Int} {o : HO} (h : Box H b n) (hp : H p = none) : Box (upd H p o) b n := by
  obtain ⟨x, y, z, e, r⟩ := h
  exact ⟨x, y, z, by rw [upd_ne (ne_of_none e hp)]; exact e, r⟩
theorem Box.upd {H : Hp} {b p : Addr} {n : Int} {o : HO} (h : Box H b n) (hp : b ≠ p) : Box (upd H p o) b n := by
  obtain ⟨x, y, z, e, r⟩ := h
  exact ⟨x, y, z, by rw [upd_ne hp]; exact e, r⟩
theorem Box.ne {H : Hp} {b p : Addr} {n : Int} (h : Box H b n) (hp : H p = none) : b ≠ p := by
  obtain ⟨x, y, z, e, r⟩ := h
  exact ne_of_none e hp
theorem Box.mono {H : Hp} {b : Addr} {n m : Int} (h : Box H b n) (hp : n ≤ m) : Box H b m := by
  obtain ⟨x, y, z, e, r1, r2, r3, r4, r5⟩ := h
  exact ⟨x, y, z, e, r1, r2, r3, r4, by omega⟩
theorem sz (n : Nat) (h : n ≤ 100000 := by first | decide | omega) : n ≤ sizeLine := Nat.le_trans h (by decide)
/-- draws a number below m -/
def spTake : Sp := fun vs H Q _ => ∃ (b : Addr) (m n : Int), vs = [.ref b, .int m] ∧ 0 < m ∧ m < 2 ^ 140 ∧ n ≤ 1000000 ∧ Box H b n ∧
  ∀ d H', 0 ≤ d → d < m → Box H' b (n + 1) → Ext b H H' → Q (.int d) H'
def spCell (K : PySem.W.Frag) : Sp := fun vs H Q _ => ∃ (a : Addr) (ns : List Int) (k : Nat), vs = [.ref a, .int k] ∧ SqL K H a (ns.map V.int) ∧ ∀ i, Q (.int i) H
def spBox : Sp := fun vs H Q _ => ∃ i : Int, vs = [.int i] ∧ ∀ p H', H p = none → Box H' p 0 → (∀ a, a ≠ p → H' a = H a) → Q (.ref p) H'
end Pu

set_option Elab.async false
set_option linter.all false
set_option maxRecDepth 100000
set_option maxHeartbeats 2000000
namespace Pu
open PySem PySem.Spec PyProof.Rows L2
/-! ### an item at a drawn place -/
theorem pickN {α : Type} {xs : List α} {i : Int} (h0 : 0 ≤ i) (h1 : i < xs.length) : ∃ v, atI xs i = some v ∧ v ∈ xs := by
  obtain ⟨k, rfl⟩ := Int.eq_ofNat_of_zero_le h0
  have hk : k < xs.length := by omega
  exact ⟨xs[k], atI_nat (List.getElem?_eq_getElem hk), List.getElem_mem hk⟩
/-! ### texts: lengths -/
theorem len_app (x y : Str) : (x ++ y).length = x.length + y.length := PySem.Str.length_append x y
theorem len_cut (z : Str) (lo hi : Option Int) : (cutS z lo hi).length ≤ z.length := by
  show (List.toArray _).size ≤ z.cps.size
  rw [List.size_toArray, List.length_take, List.length_drop, Array.length_toList]
  show min _ (z.cps.size - _) ≤ z.cps.size
  omega
theorem sum_app (xs ys : List Nat) : (xs ++ ys).sum = xs.sum + ys.sum := List.sum_append
theorem len_join0 : ∀ ys : List Str, (Txt.join ("" : Str) ys).length = (ys.map (·.length)).sum := by
  intro ys
  rw [show Txt.join ("" : Str) ys = PySem.Str.join ("" : Str) ys from PySem.StrLaws.glued_eq_join _ _]
  induction ys with
  | nil => rfl
  | cons x r ih =>
    cases r with
    | nil =>
      show x.length = x.length + 0
      rfl
    | cons y r =>
      show (x ++ ("" : Str) ++ PySem.Str.join ("" : Str) (y :: r)).length = _
      rw [len_app, len_app, ih]
      show x.length + 0 + _ = x.length + _
      rfl
theorem len_one (c : Nat) : (⟨#[c]⟩ : Str).length = 1 := rfl
/-- texts of one sign each -/
theorem sum_ones : ∀ ys : List Str, (∀ y ∈ ys, y.length = 1) → (ys.map (·.length)).sum = ys.length
  | [], _ => rfl
  | y :: r, h => by
    rw [List.map_cons, List.sum_cons, List.length_cons, h y (List.mem_cons_self ..), sum_ones r fun z hz => h z (List.mem_cons_of_mem _ hz)]
    omega
end Pu

set_option Elab.async false
set_option linter.all false
set_option maxRecDepth 100000
set_option maxHeartbeats 4000000
namespace Pk
open PySem PySem.Spec PyProof.Rows L2 Pu
def topS (i : Nat) : Stmt := PySem.Challenge.pw_pileups_k01_kinds_of_words.main.body.getD i (.Pass ⟨0, 0, 0, 0⟩)
structure Txt (mg : Str → Option Value) : Prop where
  m_all : mg "all" = none
  m_bool : mg "bool" = none
  m_int : mg "int" = none
  m_isinstance : mg "isinstance" = none
  m_len : mg "len" = none
  m_max : mg "max" = none
  m_min : mg "min" = none
  m_range : mg "range" = none
  m_str : mg "str" = none
  m_LETTERS : ∃ t, mg "LETTERS" = some (.str ("abcdefghijklmnopqrstuvwxyz" : Str) t)
  m_LONGEST_NAME : ∃ t, mg "LONGEST_NAME" = some (.int 8 t)
abbrev s_is_integer : Stmt := topS 3
theorem sc_is_integer : FnScope ["value"] ["value"] (defScope s_is_integer) := ⟨rfl, rfl, rfl, by decide +kernel, rfl, by decide +kernel, by decide +kernel⟩
abbrev s_is_count : Stmt := topS 4
theorem sc_is_count : FnScope ["value"] ["value"] (defScope s_is_count) := ⟨rfl, rfl, rfl, by decide +kernel, rfl, by decide +kernel, by decide +kernel⟩
abbrev s_is_name : Stmt := topS 5
theorem sc_is_name : FnScope ["value", "letter"] ["value"] (defScope s_is_name) := ⟨rfl, rfl, rfl, by decide +kernel, rfl, by decide +kernel, by decide +kernel⟩
abbrev s_law_cell : Stmt := topS 7
theorem sc_law_cell : FnScope ["_law_script", "_law_k"] ["_law_script", "_law_k"] (defScope s_law_cell) := ⟨rfl, rfl, rfl, by decide +kernel, rfl, by decide +kernel, by decide +kernel⟩
abbrev s_law_box : Stmt := topS 8
theorem sc_law_box : FnScope ["_law_cell_here"] ["_law_cell_here"] (defScope s_law_box) := ⟨rfl, rfl, rfl, by decide +kernel, rfl, by decide +kernel, by decide +kernel⟩
abbrev s_law_take : Stmt := topS 9
theorem sc_law_take : FnScope ["_law_box_here", "_law_many", "_law_digit", "_law_number"] ["_law_box_here", "_law_many"] (defScope s_law_take) := ⟨rfl, rfl, rfl, by decide +kernel, rfl, by decide +kernel, by decide +kernel⟩

/-! ### kinds -/
def clss : List String := ["int", "bool", "str", "list", "tuple", "dict"]
def kinds : List String := ["NoneType", "bool", "int", "str", "list", "tuple", "dict"]
def isk (a b : String) : Bool := a == b || (a == "bool" && b == "int")
theorem kit_all : ∀ a ∈ kinds, ∀ b ∈ clss, kitB a b = some (isk a b) := by decide +kernel
theorem kitx {K : PySem.W.Frag} {T c : String} (hk : T ∈ kinds) (hc : c ∈ clss) : PySem.W.kitOne K (.type T) (.type c) = some (isk T c) := kit_ty (kit_all T hk c hc)
theorem kity {K : PySem.W.Frag} {T c : String} (b : Bool) (hk : T ∈ kinds) (hc : c ∈ clss) (e : isk T c = b) : PySem.W.kitOne K (.type T) (.type c) = some b := by rw [← e]; exact kitx hk hc
section
variable {P : Program} {w : World} {K : PySem.W.Frag} {mg : Str → Option Value} {base : Heap}
/-! ### is_integer -/
def spIsInt (K : PySem.W.Frag) : Sp := fun vs H Q _ => ∃ (x : V) (T : String), vs = [x] ∧ TyX K H x (.type T) ∧ T ∈ kinds ∧ Q (.bl (T == "int")) H
theorem ok_is_integer {f : Addr} {fd : FuncData} (F : Fun K "is_integer" "is_integer" s_is_integer f fd) (T : Txt mg) : FnOk P w K mg base CX0 1 f fd ["value"] (spIsInt K) := by
  have nd := sc_is_integer.nd
  refine F.ok sc_is_integer (fun vs H Q E h => ?_) (fun cdv A outer s H vs Q E hr h => ?_)
  · obtain ⟨x, T, rfl, _⟩ := h
    rfl
  · obtain ⟨x, t, rfl, hT, hk, q⟩ := h
    refine ⟨_, (pss_one (ps_ret (pe_and (pe_callB (isiK K) (by rfl) T.m_isinstance PyProof.Rows.boot_isinstance (pa_cons (pv 0) (pa_cons (pe_bltn (v := .ty "int") rfl T.m_int PyProof.Rows.boot_int rfl) pa_nil))) (pe_one (pe_not (pe_callB (isiK K) (by rfl) T.m_isinstance PyProof.Rows.boot_isinstance (pa_cons (pv 0) (pa_cons (pe_bltn (v := .ty "bool") rfl T.m_bool PyProof.Rows.boot_bool rfl) pa_nil)))))))), ?_⟩
    refine ⟨x, rfl, _, _, _, _, _, rfl, .ty _, hT, kitx hk (by decide), _, rfl, ite2 (fun e => ?_) (fun e => ?_)⟩
    · refine ⟨x, rfl, _, _, _, _, _, rfl, .ty _, hT, kitx hk (by decide), _, rfl, ?_⟩
      rw [show (!isk t "bool") = (t == "int") from (show ∀ t ∈ kinds, isk t "int" = true → (!isk t "bool") = (t == "int") by decide) t hk e]
      exact q
    · rw [show (false : Bool) = (t == "int") from (show ∀ t ∈ kinds, ¬ isk t "int" = true → false = (t == "int") by decide) t hk e]
      exact q
/-! ### is_count -/
def spIsCount (K : PySem.W.Frag) : Sp := fun vs H Q _ => (∃ i : Int, vs = [.int i] ∧ Q (.bl (decide (0 ≤ i))) H) ∨ ∃ (x : V) (T : String), vs = [x] ∧ TyX K H x (.type T) ∧ T ∈ kinds ∧ T ≠ "int" ∧ Q (.bl false) H
theorem ok_is_count {f : Addr} {fd : FuncData} (F : Fun K "is_count" "is_count" s_is_count f fd) (T : Txt mg) (cis_integer : Cal P w K mg base 1 "is_integer" (spIsInt K) []) : FnOk P w K mg base CX0 2 f fd ["value"] (spIsCount K) := by
  have nd := sc_is_count.nd
  refine F.ok sc_is_count (fun vs H Q E h => ?_) (fun cdv A outer s H vs Q E hr h => ?_)
  · rcases h with ⟨_, rfl, _⟩ | ⟨_, _, rfl, _⟩ <;> rfl
  · refine ⟨_, (pss_one (ps_ret (pe_and (pe_c cis_integer hr (by decide) rfl (pa_cons (pv 0) pa_nil)) (pe_one (pe_cmpR op_ge (pv 0) pe_int (by rfl)))))), ?_⟩
    rcases h with ⟨i, rfl, q⟩ | ⟨x, t, rfl, hT, hk, hn, q⟩
    · exact ⟨_, rfl, _, "int", rfl, .base (.int i), by decide, _, rfl, ite2 (fun _ => ⟨_, rfl, _, _, rfl, rfl, q⟩) (fun e => absurd rfl e)⟩
    · refine ⟨_, rfl, _, t, rfl, hT, hk, _, rfl, ite2 (fun e => absurd (eq_of_beq e) hn) (fun _ => q)⟩
/-! ### the law's numbers -/
theorem ok_cell {f : Addr} {fd : FuncData} (F : Fun K "_law_cell" "_law_cell" s_law_cell f fd) (T : Txt mg) : FnOk P w K mg base CX0 1 f fd ["_law_script", "_law_k"] (spCell K) := by
  have nd := sc_law_cell.nd
  refine F.ok sc_law_cell (fun vs H Q E h => ?_) (fun cdv A outer s H vs Q E hr h => ?_)
  · obtain ⟨a, ns, k, rfl, _⟩ := h
    rfl
  · obtain ⟨a, ns, k, rfl, hS, q⟩ := h
    refine ⟨_, (pss_cons (ps_if (pt_cmpR op_lt (pv 1) (pe_callB (lenK K) (by rfl) T.m_len PySem.boot_len (pa_cons (pv 0) pa_nil)) (by rfl))
      (pss_one (ps_ret (pe_ix (ixL K) (pv 0) (pv 1) (fun _ _ => rfl)))) pss_nil)
      (pss_one (ps_ret (pe_op oAdd (pe_op op_mul pe_int (pv 1)) pe_int)))), ?_⟩
    refine ⟨_, rfl, _, rfl, .inl ⟨a, _, rfl, .inl hS, _, _, rfl, rfl, _, rfl, ite2 (fun e => ?_) (fun e => ?_)⟩⟩
    · have hk : k < ns.length := by
        have := of_decide_eq_true e
        rw [List.length_map] at this
        omega
      refine ⟨_, rfl, _, rfl, a, _, _, .int ns[k], rfl, rfl, hS, ?_, q _⟩
      exact atI_nat (by rw [List.getElem?_map, List.getElem?_eq_getElem hk]; rfl)
    · exact ⟨_, rfl, _, _, rfl, rfl, .inl ⟨by decide, by decide⟩, .inl ⟨_, _, rfl, rfl, q _⟩⟩
theorem ok_box {f : Addr} {fd : FuncData} (F : Fun K "_law_box" "_law_box" s_law_box f fd) (T : Txt mg) : FnOk P w K mg base CX0 1 f fd ["_law_cell_here"] spBox := by
  have nd := sc_law_box.nd
  refine F.ok sc_law_box (fun vs H Q E h => ?_) (fun cdv A outer s H vs Q E hr h => ?_)
  · obtain ⟨i, rfl, _⟩ := h
    rfl
  · obtain ⟨i, rfl, q⟩ := h
    refine ⟨_, (pss_one (ps_ret (pe_lst (pa_cons (pe_callB (call_max2 rfl) (by rfl) T.m_max PyProof.Rows.boot_max (pa_cons pe_int (pa_cons (pe_op op_sub (pv 0) (pe_op op_pow pe_int pe_int)) pa_nil))) (pa_cons (pe_op op_mod (pv 0) pe_int) (pa_cons pe_int pa_nil)))))), ?_⟩
    refine ⟨_, rfl, _, _, rfl, rfl, ⟨by decide, by decide, by decide⟩, _, _, rfl, rfl, _, _, rfl, _, rfl, _, _, rfl, rfl, (by show (0 : Int) < 2147483629; decide), sz 3, fun p hp => ?_⟩
    refine q p _ hp ⟨_, _, _, upd_same, ?_, ?_, ?_, ?_, ?_⟩ fun a ha => upd_ne ha
    · split <;> omega
    · exact Int.emod_nonneg _ (by decide)
    · have := Int.emod_lt_of_pos i (show (0 : Int) < 2147483629 by decide)
      omega
    · decide
    · decide
theorem ok_take {f : Addr} {fd : FuncData} (F : Fun K "_law_take" "_law_take" s_law_take f fd) (T : Txt mg) : FnOk P w K mg base CX0 1 f fd ["_law_box_here", "_law_many"] spTake := by
  have nd := sc_law_take.nd
  refine F.ok sc_law_take (fun vs H Q E h => ?_) (fun cdv A outer s H vs Q E hr h => ?_)
  · obtain ⟨b, m, n, rfl, _⟩ := h
    rfl
  · obtain ⟨b, m, n, rfl, hm, hm2, hn, ⟨x, y, z, hB, hx, hy, hy2, hz, hzn⟩, q⟩ := h
    refine ⟨_, (pss_cons (ps_if (pt_cmpR op_gt (pe_ix (ixL K) (pv 0) pe_int (fun _ _ => rfl)) pe_int (by rfl))
      (pss_cons (ps_set (i := 2) nd rfl (Or.inl rfl) (pe_op op_mod (pe_ix (ixL K) (pv 0) pe_int (fun _ _ => rfl)) (pv 1)))
      (pss_cons (ps_asg (pe_op op_fdivW (pe_ix (ixL K) (pv 0) pe_int (fun _ _ => rfl)) (pv 1)) (pg_sub (pv 0) pe_int set_list))
      (pss_one (ps_ret (pv 2))))) pss_nil)
      (pss_cons (ps_asg (pe_op oAdd (pe_ix (ixL K) (pv 0) pe_int (fun _ _ => rfl)) pe_int) (pg_sub (pv 0) pe_int set_list))
      (pss_cons (ps_set (i := 3) nd rfl (Or.inl rfl) (pe_op op_mod (pe_op op_pow (pe_op oAdd (pe_op oAdd (pe_ix (ixL K) (pv 0) pe_int (fun _ _ => rfl)) (pe_op op_mul pe_int (pe_ix (ixL K) (pv 0) pe_int (fun _ _ => rfl)))) pe_int) pe_int) pe_int))
      (pss_cons (ps_set (i := 3) nd rfl (Or.inl rfl) (pe_op op_mod (pe_op op_pow (pe_op oAdd (pv 3) (pe_op op_mul pe_int (pe_ix (ixL K) (pv 0) pe_int (fun _ _ => rfl)))) pe_int) pe_int))
      (pss_one (ps_ret (pe_op op_mod (pe_op op_fdiv (pv 3) pe_int) (pv 1)))))))), ?_⟩
    refine ⟨_, rfl, _, _, _, _, rfl, rfl, .inl (.inl hB), rfl, _, _, rfl, rfl, _, rfl, ite2 (fun e => ?_) (fun e => ?_)⟩
    · refine ⟨_, rfl, _, _, _, _, rfl, rfl, .inl (.inl hB), rfl, _, rfl, _, _, rfl, rfl, hm, ?_⟩
      refine ⟨_, rfl, _, _, _, _, rfl, rfl, .inl (.inl hB), rfl, _, rfl, _, _, rfl, rfl, (wide_div hm (show m.natAbs < 2 ^ 140 by omega) (by decide) (by decide)), _, rfl, _, _, _, _, rfl, rfl, hB, rfl, ?_⟩
      refine ⟨_, rfl, q _ _ (Int.emod_nonneg _ (by omega)) (Int.emod_lt_of_pos _ hm) ⟨_, _, _, upd_same, Int.ediv_nonneg hx (by omega), hy, hy2, hz, by omega⟩ Ext.at⟩
    · have hz2 : (0 : Int) ≤ z + 1 ∧ z + 1 ≤ 1000001 := by omega
      refine ⟨_, rfl, _, _, _, _, rfl, rfl, .inl (.inl hB), rfl, .inl ⟨_, _, rfl, rfl, _, rfl, _, _, _, _, rfl, rfl, hB, rfl, ?_⟩⟩
      have hB1 : (upd H b (.lst ([V.int x, V.int y, V.int z].set 2 (.int (z + 1))))) b = some (.lst [.int x, .int y, .int (z + 1)]) := upd_same
      have n1 : (0 : Int) ≤ (y + 7919 * (z + 1) + 43) := by omega
      have n2 : (y + 7919 * (z + 1) + 43) < 18446744073709551616 := by omega
      refine ⟨_, rfl, _, _, _, _, rfl, rfl, .inl (.inl hB1), rfl, _, rfl, _, _, _, _, rfl, rfl, .inl (.inl hB1), rfl, _, _, rfl, rfl, .inl ⟨by decide, by decide⟩, .inl ⟨_, _, rfl, rfl, .inl ⟨_, _, rfl, rfl,
        _, _, rfl, rfl, ⟨by decide, by decide, ?_⟩, _, _, rfl, rfl, (by show (0 : Int) < 2147483647; decide), ?_⟩⟩⟩
      · show (y + 7919 * (z + 1) + 43).natAbs < 2 ^ 64
        omega
      · have p0 : (0 : Int) ≤ ((y + 7919 * (z + 1) + 43) ^ (5 : Int).toNat) % 2147483647 := Int.emod_nonneg _ (by decide)
        have p1 : ((y + 7919 * (z + 1) + 43) ^ (5 : Int).toNat) % 2147483647 < 2147483647 := Int.emod_lt_of_pos _ (by decide)
        have e1 : ∀ g : Int, 0 ≤ g → g < 2147483647 → (g + 104729 * (z + 1)).natAbs < 2 ^ 64 := by
          intro g h0 h1
          omega
        refine ⟨_, rfl, _, rfl, _, _, _, _, rfl, rfl, .inl (.inl hB1), rfl, _, _, rfl, rfl, .inl ⟨by decide, by decide⟩, .inl ⟨_, _, rfl, rfl, _, _, rfl, rfl, ⟨by decide, by decide, e1 _ p0 p1⟩, _, _, rfl, rfl, (by show (0 : Int) < 2147483587; decide), ?_⟩⟩
        refine ⟨_, rfl, _, _, rfl, rfl, ⟨by decide, by decide⟩, _, rfl, _, _, rfl, rfl, hm, ?_⟩
        exact q _ _ (Int.emod_nonneg _ (by omega)) (Int.emod_lt_of_pos _ hm) ⟨_, _, _, hB1, hx, hy, hy2, hz2.1, by omega⟩ Ext.at
end
end Pk

set_option Elab.async false
set_option linter.all false
set_option maxRecDepth 100000
set_option maxHeartbeats 4000000
namespace Pk
open PySem PySem.Spec PyProof.Rows L2 Pu
abbrev s_law_string : Stmt := topS 10
theorem sc_law_string : FnScope ["_law_box_here", "_law_letters", "_law_some", "_law_many", "_law_text", "_law_at", "_law_k"] ["_law_box_here"] (defScope s_law_string) := ⟨rfl, rfl, rfl, by decide +kernel, rfl, by decide +kernel, by decide +kernel⟩
abbrev s_law_is : Stmt := topS 11
theorem sc_law_is : FnScope ["_law_found", "_law_due"] ["_law_found", "_law_due"] (defScope s_law_is) := ⟨rfl, rfl, rfl, by decide +kernel, rfl, by decide +kernel, by decide +kernel⟩

abbrev abc : Str := "abcdefghijklmnopqrstuvwxyz"
def nameOk (s : Str) : Bool := decide (1 ≤ s.length ∧ s.length ≤ 8) && s.cps.toList.all fun c => decide (c ∈ abc.cps.toList)
theorem nameOk_of {s : Str} (h1 : 1 ≤ s.length) (h2 : s.length ≤ 8) : nameOk s = s.cps.toList.all fun c => decide (c ∈ abc.cps.toList) := by
  unfold nameOk
  rw [decide_eq_true (And.intro h1 h2), Bool.true_and]
theorem nameOk_not {s : Str} (h : ¬ (1 ≤ s.length ∧ s.length ≤ 8)) : nameOk s = false := by
  unfold nameOk
  rw [decide_eq_false h, Bool.false_and]
def kindsN : List String := ["NoneType", "bool", "int", "list", "tuple", "dict"]
section
variable {P : Program} {w : World} {K : PySem.W.Frag} {mg : Str → Option Value} {base : Heap}
/-! ### is_name -/
def spIsName (K : PySem.W.Frag) : Sp := fun vs H Q _ => (∃ s : Str, vs = [.str s] ∧ s.length ≤ 1000 ∧ ∀ H', Same H H' → Q (.bl (nameOk s)) H') ∨ ∃ (x : V) (T : String), vs = [x] ∧ TyX K H x (.type T) ∧ T ∈ kindsN ∧ Q (.bl false) H
theorem ok_is_name {f : Addr} {fd : FuncData} (F : Fun K "is_name" "is_name" s_is_name f fd) (T : Txt mg) : FnOk P w K mg base CX0 1 f fd ["value"] (spIsName K) := by
  have nd := sc_is_name.nd
  refine F.ok sc_is_name (fun vs H Q E h => ?_) (fun cdv A outer s H vs Q E hr h => ?_)
  · rcases h with ⟨_, rfl, _⟩ | ⟨_, _, rfl, _⟩ <;> rfl
  · refine ⟨_, (pss_cons (ps_if (PW.pt (pw_or (pt_not (pt_val (pe_callB (isiK K) (by rfl) T.m_isinstance PyProof.Rows.boot_isinstance (pa_cons (pv 0) (pa_cons (pe_bltn (v := .ty "str") rfl T.m_str PyProof.Rows.boot_str rfl) pa_nil))))) (pw_or1 (pt_not (pt_chain op_le op_le pe_int (pe_callB (lenK K) (by rfl) T.m_len PySem.boot_len (pa_cons (pv 0) pa_nil)) (pe_gi rfl T.m_LONGEST_NAME))))))
      (pss_one (ps_ret pe_bl)) pss_nil)
      (pss_one (ps_ret (pe_callB (cr_all rfl) (by rfl) T.m_all PyProof.Rows.boot_all (pa_cons (pe_lc (own := [("letter", 1)]) (g := gName 1) (tt := tYes) rfl nd (pi_str (pv 0)) (blkOk_by (N := ["value", "letter"]) (sc := defScope s_is_name) (by decide +kernel)) (fun _ _ _ _ _ => pg_name (i := 1) nd rfl (Or.inl rfl)) (fun _ _ _ _ _ => pts_nil) (fun _ _ _ _ _ => (pe_cmpR (oIn K) (pv 1) (pe_gs rfl T.m_LETTERS) (by rfl)))) pa_nil))))), ?_⟩
    rcases h with ⟨z, rfl, hz, q⟩ | ⟨x, t, rfl, hT, hk, q⟩
    · refine ⟨_, rfl, _, _, _, _, _, rfl, .ty _, .base (.str z), kity true (by decide) (by decide) rfl, _, rfl, _, rfl, .inr ⟨z, rfl, sz _ (by omega), _, _, rfl, rfl, _, rfl, ite2 (fun e1 => ⟨_, _, rfl, rfl, _, rfl, ite2 (fun e2 => ?_) (fun e2 => ?_)⟩) (fun e1 => ⟨_, rfl, ?_⟩)⟩⟩
      · have e3 : ¬ ((z.length : Int) ≤ 8) := fun hh => by
          rw [decide_eq_true hh] at e2
          exact absurd e2 (by decide)
        have := q H (Same.refl H)
        rw [nameOk_not (by omega)] at this
        exact this
      · have e3 : ((z.length : Int) ≤ 8) := by
          by_cases hh : ((z.length : Int) ≤ 8)
          · exact hh
          · rw [decide_eq_false hh] at e2
            exact absurd rfl e2
        have e4 : (1 : Int) ≤ z.length := of_decide_eq_true e1
        have hn : nameOk z = _ := nameOk_of (s := z) (by omega) (by omega)
        refine ⟨_, rfl, z, rfl, fun D hD => lc_it walk_str (fun i H' => Same H H' ∧ H' D = some (.lst (((z.cps.toList.take i).map fun c => decide (c ∈ abc.cps.toList)).map V.bl))) ⟨same_upd hD, upd_same⟩ (fun _ _ _ _ => trivial) (fun i x H1 H2 hi p y => ?_) (fun H1 p => ?_)⟩
        · obtain ⟨rfl, c, hc, rfl⟩ := y
          refine ⟨rfl, _, rfl, .inl ⟨c, _, rfl, rfl, _, p.2, ?_, ?_, ?_⟩⟩
          · have h9 : z.cps.size = z.length := rfl
            rw [List.length_map, List.length_map, List.length_take, Array.length_toList]
            exact small1000 (by omega)
          · intro b o hb
            rw [upd_ne (ne_of_none hb hD)]
            exact p.1 _ _ hb
          · rw [upd_same, List.take_add_one, show z.cps.toList[i]? = some c by rw [Array.getElem?_toList]; exact hc, List.map_append, List.map_append]
            rfl
        · refine ⟨D, _, rfl, .inl (.inl p.2), ?_⟩
          have hl : z.cps.toList.take z.cps.size = z.cps.toList := List.take_of_length_le (by rw [Array.length_toList]; exact Nat.le_refl _)
          rw [hl, List.all_map]
          have := q H1 p.1
          rw [hn] at this
          exact this
      · have e3 : ¬ ((1 : Int) ≤ z.length) := fun hh => e1 (decide_eq_true hh)
        have := q H (Same.refl H)
        rw [nameOk_not (by omega)] at this
        exact this
    · have hk2 : t ∈ kinds ∧ isk t "str" = false := (show ∀ t ∈ kindsN, t ∈ kinds ∧ isk t "str" = false by decide) t hk
      exact ⟨_, rfl, _, _, _, _, _, rfl, .ty _, hT, kity false hk2.1 (by decide) hk2.2, _, rfl, q⟩
/-! ### _law_is -/
def spIs : Sp := fun vs H Q _ => ∃ a b : Bool, vs = [.bl a, .bl b] ∧ a = b ∧ Q (.bl true) H
theorem ok_is {f : Addr} {fd : FuncData} (F : Fun K "_law_is" "_law_is" s_law_is f fd) (T : Txt mg) : FnOk P w K mg base CX0 1 f fd ["_law_found", "_law_due"] spIs := by
  have nd := sc_law_is.nd
  refine F.ok sc_law_is (fun vs H Q E h => ?_) (fun cdv A outer s H vs Q E hr h => ?_)
  · obtain ⟨_, _, rfl, _⟩ := h
    rfl
  · obtain ⟨a, b, rfl, rfl, q⟩ := h
    refine ⟨_, (pss_one (ps_ret (pe_and (pe_callB (isiK K) (by rfl) T.m_isinstance PyProof.Rows.boot_isinstance (pa_cons (pv 0) (pa_cons (pe_bltn (v := .ty "bool") rfl T.m_bool PyProof.Rows.boot_bool rfl) pa_nil))) (pe_one (pe_cmpR op_eq (pv 0) (pv 1) (by rfl)))))), ?_⟩
    refine ⟨_, rfl, _, _, _, _, _, rfl, .ty _, .base (.bl a), kity true (by decide) (by decide) rfl, _, rfl, _, rfl, _, rfl, rfl, ?_⟩
    rw [decide_eq_true rfl]
    exact q
/-! ### _law_string -/
def spString : Sp := fun vs H Q _ => ∃ (b : Addr) (n : Int), vs = [.ref b] ∧ n ≤ 900000 ∧ Box H b n ∧ ∀ (s : Str) H', s.length ≤ 40 → Box H' b (n + 30) → Ext b H H' → Q (.str s) H'
theorem ok_string {f : Addr} {fd : FuncData} (F : Fun K "_law_string" "_law_string" s_law_string f fd) (T : Txt mg) (claw_take : Cal P w K mg base 1 "_law_take" spTake []) : FnOk P w K mg base CX0 2 f fd ["_law_box_here"] spString := by
  have nd := sc_law_string.nd
  refine F.ok sc_law_string (fun vs H Q E h => ?_) (fun cdv A outer s H vs Q E hr h => ?_)
  · obtain ⟨_, _, rfl, _⟩ := h
    rfl
  · obtain ⟨b, n, rfl, hn, hB, q⟩ := h
    refine ⟨_, (pss_cons (ps_set (i := 1) nd rfl (Or.inr rfl) pe_str)
      (pss_cons (ps_set (i := 2) nd rfl (Or.inl rfl) (pe_op oAdd (pv 1) pe_str))
      (pss_cons (ps_set (i := 3) nd rfl (Or.inl rfl) (pe_ix (ixL K) (pe_lst (pa_cons (pe_c claw_take hr (by decide) rfl (pa_cons (pv 0) (pa_cons pe_int pa_nil))) (pa_cons pe_int (pa_cons pe_int pa_nil)))) (pe_c claw_take hr (by decide) rfl (pa_cons (pv 0) (pa_cons pe_int pa_nil))) (fun _ _ => rfl)))
      (pss_cons (ps_set (i := 4) nd rfl (Or.inl rfl) (pe_join pe_str (pe_lc (own := [("_law_k", 6)]) (g := gName 6) (tt := tYes) rfl nd (pi_range1 rfl T.m_range (pa_cons (pv 3) pa_nil)) (blkOk_by (N := ["_law_box_here", "_law_letters", "_law_some", "_law_many", "_law_text", "_law_at", "_law_k"]) (sc := defScope s_law_string) (by decide +kernel)) (fun _ _ _ _ _ => pg_name (i := 6) nd rfl (Or.inl rfl)) (fun _ _ _ _ _ => pts_nil) (fun _ _ _ _ _ => (pe_ix ix_str (pv 1) (pe_c claw_take hr (by decide) rfl (pa_cons (pv 0) (pa_cons pe_int pa_nil))) (fun _ _ => rfl))))))
      (pss_cons (ps_if (pt_cmpR op_eq (pe_c claw_take hr (by decide) rfl (pa_cons (pv 0) (pa_cons pe_int pa_nil))) pe_int (by rfl))
      (pss_cons (ps_set (i := 5) nd rfl (Or.inl rfl) (pe_c claw_take hr (by decide) rfl (pa_cons (pv 0) (pa_cons (pe_op oAdd (pv 3) pe_int) pa_nil))))
      (pss_one (ps_set (i := 4) nd rfl (Or.inl rfl) (pe_op oAdd (pe_op oAdd (pe_slice sl_str (pv 4) po_none (po_some (pv 5))) (pe_ix ix_str (pv 2) (pe_c claw_take hr (by decide) rfl (pa_cons (pv 0) (pa_cons pe_int pa_nil))) (fun _ _ => rfl))) (pe_slice sl_str (pv 4) (po_some (pe_op oAdd (pv 5) (pe_c claw_take hr (by decide) rfl (pa_cons (pv 0) (pa_cons pe_int pa_nil))))) po_none))))) pss_nil)
      (pss_one (ps_ret (pv 4)))))))), ?_⟩
    refine ⟨_, rfl, .inr (.inl ⟨_, _, rfl, rfl, by decide +kernel, ?_⟩)⟩
    refine ⟨_, rfl, b, 11, n, rfl, by decide, by decide, by omega, hB, fun d1 H1 a1 a2 B1 e1 => ⟨sz 3, fun p hp => ⟨_, rfl, b, 3, n + 1, rfl, by decide, by decide, by omega, B1.new hp, fun d2 H2 c1 c2 B2 e2 => ?_⟩⟩⟩
    have hbp : b ≠ p := B1.ne hp
    have hP : H2 p = some (.lst [.int d1, .int 8, .int 9]) := e2 _ _ hbp.symm upd_same
    have E2 : Ext b H H2 := e1.trans ((Ext.new hp).trans e2)
    obtain ⟨v, hv, hm⟩ := pickN (xs := [V.int d1, .int 8, .int 9]) c1 (by show d2 < 3; exact c2)
    obtain ⟨m, rfl, hm0, hm1⟩ : ∃ m : Int, v = .int m ∧ 0 ≤ m ∧ m ≤ 10 := by
      simp only [List.mem_cons, List.not_mem_nil, or_false] at hm
      rcases hm with rfl | rfl | rfl
      · exact ⟨_, rfl, a1, by omega⟩
      · exact ⟨_, rfl, by decide, by decide⟩
      · exact ⟨_, rfl, by decide, by decide⟩
    refine ⟨p, _, _, _, rfl, rfl, .inl (.inl hP), hv, ?_⟩
    -- the letters
    refine ⟨⟨_, rfl⟩, _, rfl, m, rfl, by omega, by omega, fun D hD => lc_range (fun i H' => Box H' b (n + 2 + i) ∧ Ext b H H' ∧ ∃ ys : List Str, ys.length = i ∧ (∀ y ∈ ys, y.length = 1) ∧ H' D = some (.lst (ys.map V.str))) ?_ (fun i H' hi p' => ?_) (fun H3 p' => ?_)⟩
    · exact ⟨(B2.new hD).mono (by omega), E2.trans (Ext.new hD), [], rfl, (fun _ h => nomatch h), upd_same⟩
    · obtain ⟨B3, e3, ys, hl, h1, hD3⟩ := p'
      refine ⟨rfl, _, rfl, _, rfl, b, 26, _, rfl, by decide, by decide, by omega, B3, fun d H4 f1 f2 B4 e4 => ?_⟩
      have hbD : b ≠ D := B2.ne hD
      obtain ⟨c, hc, _⟩ := pickN (xs := abc.cps.toList) f1 (by show d < 26; exact f2)
      refine ⟨_, _, c, rfl, rfl, by decide +kernel, hc, ys.map V.str, e4 _ _ hbD.symm hD3, ?_, ?_⟩
      · rw [List.length_map]
        exact small1000 (by omega)
      · refine ⟨(B4.upd hbD).mono (by omega), (e3.trans e4).mut ?_, ys ++ [⟨#[c]⟩], by simp [hl], fun y hy => ?_, ?_⟩
        · cases hh : H D with
          | none => rfl
          | some o =>
            have := E2 D o hbD.symm hh
            rw [hD] at this
            cases this
        · rcases List.mem_append.mp hy with hy | hy
          · exact h1 y hy
          · rw [List.mem_singleton.mp hy]
            rfl
        · rw [upd_same, List.map_append]
          rfl
    · obtain ⟨B3, e3, ys, hl, h1, hD3⟩ := p'
      have hln : (Txt.join ("" : Str) ys).length = ys.length := by rw [len_join0, sum_ones ys h1]
      refine ⟨_, D, ys, rfl, rfl, .inl (.inl (.inl hD3)), ?_, ?_⟩
      · rw [sum_ones ys h1]
        show ys.length + ys.length * 0 ≤ _
        omega
      · have hl2 : (Txt.join ("" : Str) ys).length ≤ 10 := by omega
        revert hl2
        generalize Txt.join ("" : Str) ys = x
        intro hl2
        refine ⟨_, rfl, b, 2, n + 12, rfl, by decide, by decide, by omega, B3.mono (by omega), fun d5 H5 g1 g2 B5 e5 => ⟨rfl, _, rfl, ite2 (fun _ => ?_) (fun _ => ?_)⟩⟩
        · have E5 := e3.trans e5
          refine ⟨_, rfl, _, rfl, .inl ⟨_, _, rfl, rfl, b, m + 1, n + 13, rfl, by omega, by omega, by omega, B5.mono (by omega), fun d6 H6 i1 i2 B6 e6 => ?_⟩⟩
          refine ⟨_, rfl, _, rfl, _, rfl, x, rfl, sz _ (by omega), _, rfl, _, rfl, b, 34, n + 14, rfl, by decide, by decide, by omega, B6.mono (by omega), fun d7 H7 j1 j2 B7 e7 => ?_⟩
          obtain ⟨c, hc, _⟩ := pickN (xs := (abc ++ ("AZ_-09 \n" : Str)).cps.toList) j1 (by rw [show ((abc ++ ("AZ_-09 \n" : Str)).cps.toList.length : Int) = 34 by decide +kernel]; exact j2)
          refine ⟨_, _, c, rfl, rfl, by decide +kernel, hc, .inr (.inl ⟨_, _, rfl, rfl, ?_, ?_⟩)⟩
          · have := len_cut x none (some d6)
            exact sz _ (by show _ + 1 ≤ 100000; omega)
          · refine ⟨_, rfl, _, rfl, _, rfl, b, 2, n + 15, rfl, by decide, by decide, by omega, B7.mono (by omega), fun d8 H8 k1 k2 B8 e8 => .inl ⟨_, _, rfl, rfl, _, rfl, x, rfl, sz _ (by omega), .inr (.inl ⟨_, _, rfl, rfl, ?_, ?_⟩)⟩⟩
            · have h1 := len_cut x none (some d6)
              have h2 := len_cut x (some (d6 + d8)) none
              exact sz _ (by rw [len_app]; show _ + 1 + _ ≤ 100000; omega)
            · refine ⟨_, rfl, q _ _ ?_ (B8.mono (by omega)) (E5.trans (e6.trans (e7.trans e8)))⟩
              have h1 := len_cut x none (some d6)
              have h2 := len_cut x (some (d6 + d8)) none
              rw [len_app, len_app]
              show _ + 1 + _ ≤ 40
              omega
        · exact ⟨_, rfl, q x _ (by omega) (B5.mono (by omega)) (e3.trans e5)⟩
end
end Pk

set_option Elab.async false
set_option linter.all false
set_option maxRecDepth 100000
set_option maxHeartbeats 4000000
namespace Pk
open PySem PySem.Spec PyProof.Rows L2 Pu
abbrev s_law_right : Stmt := topS 12
theorem sc_law_right : FnScope ["_law_box_here", "_law_far", "_law_number", "_law_one", "_law_text", "_law_signs", "_law_odd", "_law_sign"] ["_law_box_here"] (defScope s_law_right) := ⟨rfl, rfl, rfl, by decide +kernel, rfl, by decide +kernel, by decide +kernel⟩
abbrev s_law : Stmt := topS 13
theorem sc_law : FnScope ["_law_script", "_law_k", "_law_box_here", "_law_turn"] ["_law_script"] (defScope s_law) := ⟨rfl, rfl, rfl, by decide +kernel, rfl, by decide +kernel, by decide +kernel⟩

/-- what is no integer, as it stands in a heap -/
def Odd (K : PySem.W.Frag) (H : Hp) (v : V) : Prop := (∃ z : Str, v = .str z ∧ z.length ≤ 1000) ∨ ∃ T : String, TyX K H v (.type T) ∧ T ∈ ["NoneType", "bool", "list", "tuple", "dict"]
theorem Odd.ty {K : PySem.W.Frag} {H : Hp} {v : V} (h : Odd K H v) : ∃ T : String, TyX K H v (.type T) ∧ T ∈ kinds ∧ T ≠ "int" ∧ (T == "int") = false := by
  rcases h with ⟨z, rfl, _⟩ | ⟨T, hT, hk⟩
  · exact ⟨"str", .base (.str z), by decide, by decide, by decide⟩
  · exact ⟨T, hT, (show ∀ T ∈ ["NoneType", "bool", "list", "tuple", "dict"], T ∈ kinds ∧ T ≠ "int" ∧ (T == "int") = false by decide) T hk⟩
theorem odd_lst {K : PySem.W.Frag} {H : Hp} {p : Addr} {xs : List V} (h : H p = some (.lst xs)) : Odd K H (.ref p) := .inr ⟨"list", .base (.lst h), by decide⟩
theorem odd_tup {K : PySem.W.Frag} {H : Hp} {p : Addr} {xs : List V} (h : H p = some (.tup xs)) : Odd K H (.ref p) := .inr ⟨"tuple", .base (.tup h), by decide⟩
theorem odd_dct {K : PySem.W.Frag} {H : Hp} {p : Addr} {xs : List (Key × V)} (h : H p = some (.dK xs)) : Odd K H (.ref p) := .inr ⟨"dict", .base (.dK h), by decide⟩
theorem filter_all {α : Type} (p : α → Bool) (xs : List α) : (xs.all p) = decide (((xs.filter p).length : Int) = xs.length) := by
  induction xs with
  | nil => rfl
  | cons x r ih =>
    have hle : (r.filter p).length ≤ r.length := List.length_filter_le p r
    rw [List.all_cons, List.filter_cons]
    cases hp : p x with
    | true =>
      rw [Bool.true_and, ih, if_pos rfl, List.length_cons, List.length_cons]
      by_cases h : ((r.filter p).length : Int) = r.length
      · rw [decide_eq_true h, decide_eq_true (by omega)]
      · rw [decide_eq_false h, decide_eq_false (by omega)]
    | false =>
      rw [Bool.false_and, if_neg (by decide), List.length_cons, decide_eq_false (by omega)]
section
variable {P : Program} {w : World} {K : PySem.W.Frag} {mg : Str → Option Value} {base : Heap}
def spRight : Sp := fun vs H Q _ => ∃ (b : Addr) (n : Int), vs = [.ref b] ∧ n ≤ 800000 ∧ Box H b n ∧ ∀ H', Box H' b (n + 100) → Ext b H H' → Q (.bl true) H'
theorem ok_right {f : Addr} {fd : FuncData} (F : Fun K "_law_right" "_law_right" s_law_right f fd) (T : Txt mg) (claw_take : Cal P w K mg base 1 "_law_take" spTake []) (claw_string : Cal P w K mg base 2 "_law_string" spString [])
    (claw_is : Cal P w K mg base 1 "_law_is" spIs []) (cis_integer : Cal P w K mg base 1 "is_integer" (spIsInt K) []) (cis_count : Cal P w K mg base 2 "is_count" (spIsCount K) []) (cis_name : Cal P w K mg base 1 "is_name" (spIsName K) []) :
    FnOk P w K mg base CX0 3 f fd ["_law_box_here"] spRight := by
  have nd := sc_law_right.nd
  refine F.ok sc_law_right (fun vs H Q E h => ?_) (fun cdv A outer s H vs Q E hr h => ?_)
  · obtain ⟨_, _, rfl, _⟩ := h
    rfl
  · obtain ⟨b, n, rfl, hn, hB, q⟩ := h
    refine ⟨_, (pss_cons (ps_set (i := 1) nd rfl (Or.inl rfl) (pe_op oAdd (pe_op oAdd (pe_op op_mul (pe_c claw_take hr (by decide) rfl (pa_cons (pv 0) (pa_cons (pe_op op_pow pe_int pe_int) pa_nil))) (pe_op op_pow pe_int pe_int)) (pe_op op_mul (pe_c claw_take hr (by decide) rfl (pa_cons (pv 0) (pa_cons (pe_op op_pow pe_int pe_int) pa_nil))) (pe_op op_pow pe_int pe_int))) (pe_c claw_take hr (by decide) rfl (pa_cons (pv 0) (pa_cons (pe_op op_pow pe_int pe_int) pa_nil)))))
      (pss_cons (ps_set (i := 2) nd rfl (Or.inl rfl) (pe_ix (ixL K) (pe_lst (pa_cons (pe_c claw_take hr (by decide) rfl (pa_cons (pv 0) (pa_cons pe_int pa_nil))) (pa_cons (pe_op oAdd pe_int (pe_c claw_take hr (by decide) rfl (pa_cons (pv 0) (pa_cons pe_int pa_nil)))) (pa_cons (pv 1) pa_nil)))) (pe_c claw_take hr (by decide) rfl (pa_cons (pv 0) (pa_cons pe_int pa_nil))) (fun _ _ => rfl)))
      (pss_cons (ps_for PassesOwn.never rfl (pi_list (pe_lst (pa_cons (pv 2) (pa_cons (pe_un un_neg (pv 2)) (pa_cons pe_int pa_nil))))) (pg_name (i := 3) nd rfl (Or.inl rfl))
      (pss_cons (ps_if (PW.pt (pw_or (pt_not (pt_val (pe_c claw_is hr (by decide) rfl (pa_cons (pe_c cis_integer hr (by decide) rfl (pa_cons (pv 3) pa_nil)) (pa_cons pe_bl pa_nil))))) (pw_or1 (pt_not (pt_val (pe_c claw_is hr (by decide) rfl (pa_cons (pe_c cis_count hr (by decide) rfl (pa_cons (pv 3) pa_nil)) (pa_cons (pe_cmpR op_ge (pv 3) pe_int (by rfl)) pa_nil))))))))
      (pss_one (ps_ret pe_bl)) pss_nil)
      (pss_one (ps_if (pt_not (pt_val (pe_c claw_is hr (by decide) rfl (pa_cons (pe_c cis_name hr (by decide) rfl (pa_cons (pv 3) pa_nil)) (pa_cons pe_bl pa_nil)))))
      (pss_one (ps_ret pe_bl)) pss_nil))))
      (pss_cons (ps_set (i := 4) nd rfl (Or.inl rfl) (pe_c claw_string hr (by decide) rfl (pa_cons (pv 0) pa_nil)))
      (pss_cons (ps_setLc (i := 5) (y := "_law_signs") (own := [("_law_sign", 7)]) (g := gName 7) rfl nd rfl rfl (sw_true rfl rfl rfl (by decide +kernel)) (pi_str (pv 4)) (blkOk_by (N := ["_law_box_here", "_law_far", "_law_number", "_law_one", "_law_text", "_law_signs", "_law_odd", "_law_sign"]) (sc := defScope s_law_right) (by decide +kernel)) (fun _ _ _ _ _ => pg_name (i := 7) nd rfl (Or.inl rfl)) (fun _ _ _ _ _ => pts_one (pt_cmpR (oIn K) (pv 7) pe_str (by rfl))) (fun _ _ _ _ _ => (pv 7)))
      (pss_cut (ps_if (pt_not (pt_val (pe_c claw_is hr (by decide) rfl (pa_cons (pe_c cis_name hr (by decide) rfl (pa_cons (pv 4) pa_nil)) (pa_cons (pe_and (pe_chain op_le op_le pe_int (pe_callB (lenK K) (by rfl) T.m_len PySem.boot_len (pa_cons (pv 4) pa_nil)) pe_int) (pe_one (pe_cmpR op_eq (pe_callB (lenK K) (by rfl) T.m_len PySem.boot_len (pa_cons (pv 5) pa_nil)) (pe_callB (lenK K) (by rfl) T.m_len PySem.boot_len (pa_cons (pv 4) pa_nil)) (by rfl)))) pa_nil)))))
      (pss_one (ps_ret pe_bl)) pss_nil)
      (pss_cons (ps_set (i := 6) nd rfl (Or.inl rfl) (pe_ix (ixL K) (pe_lst (pa_cons (pv 4) (pa_cons pe_non (pa_cons pe_bl (pa_cons pe_bl (pa_cons pe_str (pa_cons pe_str (pa_cons (pe_lst pa_nil) (pa_cons (pe_tup pa_nil) (pa_cons pe_dnewK (pa_cons (pe_lst (pa_cons (pv 2) pa_nil)) (pa_cons (pe_tup (pa_cons pe_str pa_nil)) (pa_cons (pe_disp (pps_cons pe_str pe_int pps_nil) (by rfl) (by rfl) (by simp) (by decide)) (pa_cons (pe_lst (pa_cons (pv 4) pa_nil)) pa_nil)))))))))))))) (pe_c claw_take hr (by decide) rfl (pa_cons (pv 0) (pa_cons pe_int pa_nil))) (fun _ _ => rfl)))
      (pss_cut (ps_if (PW.pt (pw_or (pt_not (pt_val (pe_c claw_is hr (by decide) rfl (pa_cons (pe_c cis_integer hr (by decide) rfl (pa_cons (pv 6) pa_nil)) (pa_cons pe_bl pa_nil))))) (pw_or1 (pt_not (pt_val (pe_c claw_is hr (by decide) rfl (pa_cons (pe_c cis_count hr (by decide) rfl (pa_cons (pv 6) pa_nil)) (pa_cons pe_bl pa_nil))))))))
      (pss_one (ps_ret pe_bl)) pss_nil)
      (pss_one (ps_ret (pe_or (pe_callB (isiK K) (by rfl) T.m_isinstance PyProof.Rows.boot_isinstance (pa_cons (pv 6) (pa_cons (pe_bltn (v := .ty "str") rfl T.m_str PyProof.Rows.boot_str rfl) pa_nil))) (pe_one (pe_c claw_is hr (by decide) rfl (pa_cons (pe_c cis_name hr (by decide) rfl (pa_cons (pv 6) pa_nil)) (pa_cons pe_bl pa_nil))))))))))))))), ?_⟩
    -- the numbers
    refine ⟨_, rfl, _, _, rfl, rfl, ⟨by decide, by decide, by decide⟩, b, _, n, rfl, by decide, by decide, by omega, hB, fun d1 H1 a1 a2 B1 e1 => ?_⟩
    refine ⟨_, _, rfl, rfl, ⟨by decide, by decide, by decide⟩, _, _, rfl, rfl, .inl ⟨?_, ?_⟩, ?_⟩
    · omega
    · exact Int.lt_trans a2 (by decide)
    refine ⟨_, rfl, _, _, rfl, rfl, ⟨by decide, by decide, by decide⟩, b, _, n + 1, rfl, by decide, by decide, by omega, B1, fun d2 H2 a3 a4 B2 e2 => ?_⟩
    refine ⟨_, _, rfl, rfl, ⟨by decide, by decide, by decide⟩, _, _, rfl, rfl, .inl ⟨?_, ?_⟩, ?_⟩
    · omega
    · exact Int.lt_trans a4 (by decide)
    refine .inl ⟨_, _, rfl, rfl, _, rfl, _, _, rfl, rfl, ⟨by decide, by decide, by decide⟩, b, _, n + 1 + 1, rfl, by decide, by decide, by omega, B2, fun d3 H3 a5 a6 B3 e3 => .inl ⟨_, _, rfl, rfl, ?_⟩⟩
    refine ⟨_, rfl, b, 5, _, rfl, by decide, by decide, by omega, B3, fun d4 H4 a7 a8 B4 e4 => ?_⟩
    refine ⟨_, rfl, b, 9, _, rfl, by decide, by decide, by omega, B4, fun d5 H5 a9 a10 B5 e5 => .inl ⟨_, _, rfl, rfl, _, rfl, sz 3, fun p hp => ?_⟩⟩
    refine ⟨_, rfl, b, 3, _, rfl, by decide, by decide, by omega, B5.new hp, fun d6 H6 c1 c2 B6 e6 => ?_⟩
    have hbp : b ≠ p := B5.ne hp
    have E6 : Ext b H H6 := e1.trans (e2.trans (e3.trans (e4.trans (e5.trans ((Ext.new hp).trans e6)))))
    have hP : H6 p = some (.lst [.int d4, .int (1 + d5), .int (d1 * 10 ^ (22 : Int).toNat + d2 * 10 ^ (11 : Int).toNat + d3)]) := e6 _ _ hbp.symm upd_same
    obtain ⟨v, hv, hm⟩ := pickN (xs := [V.int d4, .int (1 + d5), .int (d1 * 10 ^ (22 : Int).toNat + d2 * 10 ^ (11 : Int).toNat + d3)]) c1 (by show d6 < 3; exact c2)
    obtain ⟨num, rfl⟩ : ∃ m : Int, v = .int m := by
      simp only [List.mem_cons, List.not_mem_nil, or_false] at hm
      rcases hm with rfl | rfl | rfl <;> exact ⟨_, rfl⟩
    refine ⟨p, _, d6, _, rfl, rfl, .inl (.inl hP), hv, ?_⟩
    clear hm hv hP
    -- for one in [number, -number, 0]
    refine ⟨_, rfl, _, rfl, _, rfl, sz 3, fun p2 hp2 => ?_⟩
    refine ⟨p2, rfl, ⟨_, .inl (.inl upd_same)⟩, for_list (xs := [.int num, .int (-num), .int 0]) (fun i σ H' => H' = upd H6 p2 (.lst [.int num, .int (-num), .int 0]) ∧ ∃ far v3, σ = [some (.ref b), far, some (.int num), v3, none, none, none, none]) ⟨rfl, _, _, rfl⟩ (fun i σ H' _ h => ?_) (fun i x σ H' hx h => ?_) (fun σ H' h => ?_)⟩
    · rw [h.1]
      exact .inl (.inl upd_same)
    · obtain ⟨rfl, far, v3, rfl⟩ := h
      obtain ⟨one, rfl⟩ : ∃ m : Int, x = .int m := by
        have hm := List.mem_of_getElem? hx
        simp only [List.mem_cons, List.not_mem_nil, or_false] at hm
        rcases hm with rfl | rfl | rfl <;> exact ⟨_, rfl⟩
      refine ⟨_, rfl, _, "int", rfl, .base (.int one), by decide, true, true, rfl, rfl, _, rfl, ?_⟩
      refine ⟨_, rfl, .inl ⟨one, rfl, _, rfl, _, _, rfl, rfl, _, _, rfl, rfl, _, rfl, ?_⟩⟩
      exact ⟨_, rfl, .inr ⟨_, "int", rfl, .base (.int one), by decide, false, false, rfl, rfl, _, rfl, rfl, _, _, rfl⟩⟩
    · obtain ⟨rfl, far, v3, rfl⟩ := h
      have B7 := B6.new (o := .lst [.int num, .int (-num), .int 0]) hp2
      have E7 : Ext b H _ := E6.trans (Ext.new (o := .lst [.int num, .int (-num), .int 0]) hp2)
      revert B7 E7
      generalize upd H6 p2 (.lst [.int num, .int (-num), .int 0]) = H7
      intro B7 E7
      refine ⟨_, rfl, b, _, rfl, by omega, B7, fun z H8 hz B8 e8 => ?_⟩
      have E8 : Ext b H H8 := E7.trans e8
      clear e8 E7 B7 hp2 E6 e6 B6 hp e5 e4 e3 e2 e1 B5 B4 B3 B2 B1
      refine ⟨_, rfl, z, rfl, fun D hD => lc_it walk_str (fun i H' => Ext b H8 H' ∧ Box H' b (n + 40) ∧ H' D = some (.lst (((z.cps.toList.take i).filter fun c => decide (c ∈ abc.cps.toList)).map fun c => .str ⟨#[c]⟩))) ⟨Ext.new hD, (B8.new hD).mono (by omega), upd_same⟩ (fun _ _ _ _ => trivial) (fun i x H1 H2 hi p y => ?_) (fun H9 p => ?_)⟩
      · obtain ⟨rfl, c, hc, rfl⟩ := y
        have hg : z.cps.toList[i]? = some c := by
          rw [Array.getElem?_toList]
          exact hc
        have h9 : z.cps.size = z.length := rfl
        have hl : ((z.cps.toList.take i).filter fun c => decide (c ∈ abc.cps.toList)).length ≤ i := by
          have h1 := List.length_filter_le (fun c => decide (c ∈ abc.cps.toList)) (z.cps.toList.take i)
          rw [List.length_take] at h1
          omega
        refine ⟨rfl, _, rfl, .inl ⟨c, _, rfl, rfl, _, rfl, ite2 (fun e => ?_) (fun e => ?_)⟩⟩
        · refine ⟨_, rfl, _, p.2.2, ?_, p.1.mut hD, (p.2.1).upd (B8.ne hD), ?_⟩
          · rw [List.length_map]
            exact small1000 (by omega)
          · rw [upd_same, List.take_add_one, hg, List.filter_append, List.map_append]
            show some (HO.lst (_ ++ [_])) = some (HO.lst (_ ++ List.map _ (List.filter _ [c])))
            rw [List.filter_cons, if_pos e]
            rfl
        · refine ⟨p.1, p.2.1, ?_⟩
          rw [List.take_add_one, hg, List.filter_append]
          show _ = some (HO.lst (List.map _ (_ ++ List.filter _ [c])))
          rw [List.filter_cons, if_neg e]
          show _ = some (HO.lst (List.map _ (_ ++ [])))
          rw [List.append_nil]
          exact p.2.2
      · have h9 : z.cps.size = z.length := rfl
        obtain ⟨e9, B9, hD9⟩ := p
        rw [List.take_of_length_le (by rw [Array.length_toList]; exact Nat.le_refl _)] at hD9
        have hla : ((z.cps.toList.filter fun c => decide (c ∈ abc.cps.toList)).map fun c => V.str ⟨#[c]⟩).length = (z.cps.toList.filter fun c => decide (c ∈ abc.cps.toList)).length := List.length_map _
        have hall := filter_all (fun c => decide (c ∈ abc.cps.toList)) z.cps.toList
        rw [Array.length_toList] at hall
        have hbD : b ≠ D := B8.ne hD
        have E9 := E8.trans e9
        -- is_name of the text
        refine ⟨fun σ H' => Ext b H H' ∧ Box H' b (n + 40) ∧ σ = [some (.ref b), far, some (.int num), v3, some (.str z), some (.ref D), none, none], ?_, fun σ H' hM => ?_⟩
        · refine ⟨_, rfl, .inl ⟨z, rfl, by omega, fun H10 s10 => ?_⟩⟩
          have B10 : Box H10 b (n + 40) := by
            obtain ⟨x, y, u, e, r⟩ := B9
            exact ⟨x, y, u, s10 _ _ e, r⟩
          have E10 : Ext b H H10 := fun a o ha h => s10 _ _ (E9 a o ha h)
          have hD10 := s10 _ _ hD9
          refine ⟨_, rfl, .inr ⟨z, rfl, sz _ (by omega), _, _, rfl, rfl, _, rfl, ite2 (fun f1 => ?_) (fun f1 => ?_)⟩⟩
          · have g1 : (1 : Int) ≤ z.length := of_decide_eq_true f1
            refine ⟨_, _, rfl, rfl, _, rfl, ite2 (fun f2 => ?_) (fun f2 => ?_)⟩
            · have g2 : (z.length : Int) ≤ 8 := of_decide_eq_true f2
              refine ⟨_, rfl, .inl ⟨D, _, rfl, .inl (.inl (.inl hD10)), _, rfl, .inr ⟨z, rfl, sz _ (by omega), rfl, _, _, rfl, ?_, _, rfl, E10, B10, rfl⟩⟩⟩
              rw [nameOk_of (by omega) (by omega), hall, hla]
              simp only [V.int.injEq]
              rfl
            · have g2 : ¬ (z.length : Int) ≤ 8 := fun hh => f2 (decide_eq_true hh)
              refine ⟨_, _, rfl, ?_, _, rfl, E10, B10, rfl⟩
              rw [nameOk_not (by omega)]
          · have g1 : ¬ (1 : Int) ≤ z.length := fun hh => f1 (decide_eq_true hh)
            refine ⟨_, rfl, _, _, rfl, ?_, _, rfl, E10, B10, rfl⟩
            rw [nameOk_not (by omega)]
        · obtain ⟨E10, B10, rfl⟩ := hM
          clear hD9 hla hall e9 B9 E9
          -- the odd one
          refine ⟨_, rfl, sz 0, fun p1 n1 => ⟨sz 0, fun p2 n2 => fun p3 n3 => ⟨_, rfl, sz 1, fun p4 n4 => ⟨sz 1, fun p5 n5 => fun p6 n6 => ⟨upd_same, [(Sum.inr "a", .int 1)], rfl, by decide, ?_⟩⟩⟩⟩⟩
          have X1 := Ext.new (b := b) (o := .lst []) n1
          have X2 := Ext.new (b := b) (o := .tup []) n2
          have X3 := Ext.new (b := b) (o := .dK []) n3
          have X4 := Ext.new (b := b) (o := .lst [.int num]) n4
          have X5 := Ext.new (b := b) (o := .tup [.str "a"]) n5
          have X6 := Ext.mut (o := .dK (mergeK [] [(Sum.inr "a", .int 1)])) (Ext.new (b := b) (o := .dK []) n6) n6
          have y1 := B10.ne n1
          have B1 := B10.new (o := .lst []) n1
          have y2 := B1.ne n2
          have B2 := B1.new (o := .tup []) n2
          have y3 := B2.ne n3
          have B3 := B2.new (o := .dK []) n3
          have y4 := B3.ne n4
          have B4 := B3.new (o := .lst [.int num]) n4
          have y5 := B4.ne n5
          have B5 := B4.new (o := .tup [.str "a"]) n5
          have y6 := B5.ne n6
          have B6 := (B5.new (o := .dK []) n6).upd (o := .dK (mergeK [] [(Sum.inr "a", .int 1)])) y6
          refine ⟨_, rfl, sz 1, fun p7 n7 => ⟨sz 13, fun p8 n8 => ⟨_, rfl, b, 13, n + 40, rfl, by decide, by decide, by omega, (B6.new n7).new n8, fun d H11 d0 d1 B11 e11 => ?_⟩⟩⟩
          have y7 := B6.ne n7
          have y8 := (B6.new (o := .lst [.str z]) n7).ne n8
          have X7 := Ext.new (b := b) (o := .lst [.str z]) n7
          have X8 := (Ext.new (b := b) (o := .lst [.str z, .non, .bl true, .bl false, .str "", .str "7", .ref p1, .ref p2, .ref p3, .ref p4, .ref p5, .ref p6, .ref p7]) n8).trans e11
          have o1 : H11 p1 = some (.lst []) := (X2.trans (X3.trans (X4.trans (X5.trans (X6.trans (X7.trans X8)))))) _ _ y1.symm upd_same
          have o2 : H11 p2 = some (.tup []) := (X3.trans (X4.trans (X5.trans (X6.trans (X7.trans X8))))) _ _ y2.symm upd_same
          have o3 : H11 p3 = some (.dK []) := (X4.trans (X5.trans (X6.trans (X7.trans X8)))) _ _ y3.symm upd_same
          have o4 : H11 p4 = some (.lst [.int num]) := (X5.trans (X6.trans (X7.trans X8))) _ _ y4.symm upd_same
          have o5 : H11 p5 = some (.tup [.str "a"]) := (X6.trans (X7.trans X8)) _ _ y5.symm upd_same
          have o6 : H11 p6 = some (.dK (mergeK [] [(Sum.inr "a", .int 1)])) := (X7.trans X8) _ _ y6.symm upd_same
          have o7 : H11 p7 = some (.lst [.str z]) := X8 _ _ y7.symm upd_same
          have o8 : H11 p8 = some (.lst [.str z, .non, .bl true, .bl false, .str "", .str "7", .ref p1, .ref p2, .ref p3, .ref p4, .ref p5, .ref p6, .ref p7]) := e11 _ _ y8.symm upd_same
          have E11 : Ext b H H11 := E10.trans (X1.trans (X2.trans (X3.trans (X4.trans (X5.trans (X6.trans (X7.trans X8)))))))
          obtain ⟨v, hv, hm⟩ := pickN (xs := [V.str z, .non, .bl true, .bl false, .str "", .str "7", .ref p1, .ref p2, .ref p3, .ref p4, .ref p5, .ref p6, .ref p7]) d0 d1
          have hodd : Odd K H11 v := by
            simp only [List.mem_cons, List.not_mem_nil, or_false] at hm
            rcases hm with rfl | rfl | rfl | rfl | rfl | rfl | rfl | rfl | rfl | rfl | rfl | rfl | rfl
            · exact .inl ⟨_, rfl, by omega⟩
            · exact .inr ⟨_, .base .non, by decide⟩
            · exact .inr ⟨_, .base (.bl _), by decide⟩
            · exact .inr ⟨_, .base (.bl _), by decide⟩
            · exact .inl ⟨_, rfl, by decide⟩
            · exact .inl ⟨_, rfl, by decide⟩
            · exact odd_lst o1
            · exact odd_tup o2
            · exact odd_dct o3
            · exact odd_lst o4
            · exact odd_tup o5
            · exact odd_dct o6
            · exact odd_lst o7
          refine ⟨p8, _, d, v, rfl, rfl, .inl (.inl o8), hv, ?_⟩
          obtain ⟨t, ht, hk, hn1, hn2⟩ := hodd.ty
          refine ⟨fun σ H' => H' = H11 ∧ σ = [some (.ref b), far, some (.int num), v3, some (.str z), some (.ref D), some v, none], ?_, fun σ H' hM => ?_⟩
          · refine ⟨_, rfl, v, t, rfl, ht, hk, _, false, rfl, hn2, _, rfl, ?_⟩
            exact ⟨_, rfl, .inr ⟨v, t, rfl, ht, hk, hn1, false, false, rfl, rfl, _, rfl, rfl, rfl⟩⟩
          · obtain ⟨rfl, rfl⟩ := hM
            have fin : Q (.bl true) H' := q _ (B11.mono (by omega)) E11
            rcases hodd with ⟨u, rfl, hu⟩ | ⟨T2, hT2, hk2⟩
            · exact ⟨_, rfl, _, _, _, _, _, rfl, .ty _, .base (.str u), kity true (by decide) (by decide) rfl, _, rfl, fin⟩
            · have hk3 : T2 ∈ kinds ∧ isk T2 "str" = false ∧ T2 ∈ kindsN := (show ∀ t ∈ ["NoneType", "bool", "list", "tuple", "dict"], t ∈ kinds ∧ isk t "str" = false ∧ t ∈ kindsN by decide) T2 hk2
              exact ⟨_, rfl, _, _, _, _, _, rfl, .ty _, hT2, kity false hk3.1 (by decide) hk3.2.1, _, rfl, _, rfl, .inr ⟨v, T2, rfl, hT2, hk3.2.2, _, _, rfl, rfl, fin⟩⟩
/-! ### the law -/
def spLaw (K : PySem.W.Frag) : Sp := fun vs H Q _ => ∃ (a : Addr) (ns : List Int), vs = [.ref a] ∧ SqL K H a (ns.map V.int) ∧ ns.length ≤ 63 ∧ ∀ H', Q (.bl true) H'
theorem seq_ext {H H' : Hp} {a b : Addr} {xs : List V} (h : SqL K H a xs) (hb : H b = none) (e : Ext b H H') : SqL K H' a xs := by
  rcases h with (h | ⟨o, h⟩) | h
  · exact .inl (.inl (e _ _ (ne_of_none h hb) h))
  · exact .inl (.inr ⟨o, e _ _ (ne_of_none h hb) h⟩)
  · exact .inr h
theorem ok_law {f : Addr} {fd : FuncData} (F : Fun K "law" "law" s_law f fd) (T : Txt mg) (claw_cell : Cal P w K mg base 1 "_law_cell" (spCell K) []) (claw_box : Cal P w K mg base 1 "_law_box" spBox []) (claw_right : Cal P w K mg base 3 "_law_right" spRight []) :
    FnOk P w K mg base CX0 4 f fd ["_law_script"] (spLaw K) := by
  have nd := sc_law.nd
  refine F.ok sc_law (fun vs H Q E h => ?_) (fun cdv A outer s H vs Q E hr h => ?_)
  · obtain ⟨_, _, rfl, _⟩ := h
    rfl
  · obtain ⟨a, ns, rfl, hS, hn, q⟩ := h
    refine ⟨_, (pss_cons (ps_for PassesOwn.never rfl (pi_range1 rfl T.m_range (pa_cons (pe_callB (call_max2 rfl) (by rfl) T.m_max PyProof.Rows.boot_max (pa_cons pe_int (pa_cons (pe_callB (call_min2 rfl) (by rfl) T.m_min PyProof.Rows.boot_min (pa_cons pe_int (pa_cons (pe_callB (lenK K) (by rfl) T.m_len PySem.boot_len (pa_cons (pv 0) pa_nil)) pa_nil))) pa_nil))) pa_nil)) (pg_name (i := 1) nd rfl (Or.inl rfl))
      (pss_cons (ps_set (i := 2) nd rfl (Or.inl rfl) (pe_c claw_box hr (by decide) rfl (pa_cons (pe_c claw_cell hr (by decide) rfl (pa_cons (pv 0) (pa_cons (pv 1) pa_nil))) pa_nil)))
      (pss_one (ps_for PassesOwn.never rfl (pi_range1 rfl T.m_range (pa_cons pe_int pa_nil)) (pg_name (i := 3) nd rfl (Or.inl rfl))
      (pss_one (ps_if (pt_not (pt_val (pe_c claw_right hr (by decide) rfl (pa_cons (pv 2) pa_nil))))
      (pss_one (ps_ret pe_bl)) pss_nil))))))
      (pss_one (ps_ret pe_bl))), ?_⟩
    refine ⟨_, rfl, .inl ⟨a, _, rfl, .inl hS, _, _, rfl, _, _, rfl, _, rfl, ?_, ?_, ?_⟩⟩
    · split <;> split <;> omega
    · split <;> split <;> omega
    refine for_range (fun i σ H' => SqL K H' a (ns.map V.int) ∧ ∃ v1 v2 v3, σ = [some (.ref a), v1, v2, v3]) ⟨hS, _, _, _, rfl⟩ (fun i σ H1 hi h => ?_) (fun σ H1 h => q _)
    obtain ⟨hS1, v1, v2, v3, rfl⟩ := h
    refine ⟨_, rfl, _, rfl, a, ns, i, by rw [Int.zero_add]; rfl, hS1, fun x => ⟨x, rfl, fun p H2 np B2 e2 => ?_⟩⟩
    have hS2 : SqL K H2 a (ns.map V.int) := seq_ext hS1 np (fun c o hc h => by rw [e2 c hc]; exact h)
    have E2 : Ext p H1 H2 := fun c o hc h => by rw [e2 c hc]; exact h
    refine ⟨6, rfl, by decide, by decide, for_range (fun j σ H' => Ext p H1 H' ∧ Box H' p (100 * j) ∧ ∃ v1 v3, σ = [some (.ref a), v1, some (.ref p), v3]) ⟨E2, B2.mono (by omega), _, _, rfl⟩ (fun j σ H3 hj h => ?_) (fun σ H3 h => ?_)⟩
    · obtain ⟨E3, B3, w1, w3, rfl⟩ := h
      have hj6 : (j : Int) < 6 := by
        have : j < 6 := hj
        omega
      exact ⟨_, rfl, p, _, rfl, by omega, B3, fun H4 B4 e4 => ⟨_, rfl, E3.trans e4, B4.mono (by omega), _, _, rfl⟩⟩
    · obtain ⟨E3, B3, w1, w3, rfl⟩ := h
      exact ⟨seq_ext hS1 np E3, _, _, _, rfl⟩
end
end Pk

set_option Elab.async false
set_option linter.all false
set_option maxRecDepth 100000
set_option maxHeartbeats 4000000
namespace Pk
open PySem PySem.Spec PyProof.Rows L2 Pu
theorem all_mk {l : PySem.W.OpenLaw} {w : World} {K : PySem.W.Frag} {h : Heap} {mg : Str → Option Value} {fa f0 f1 f2 f3 f4 f5 f6 f7 f8 f9 : Addr} {t_LETTERS t_LONGEST_NAME : Tok} (X : K.In h) (G : h.Ns mainGlobals mg) (hfa : mg "law" = some (.ref fa))
    {od0 an0 : Option Addr} {sl0 : Array (Option Value)} {oc0 kV0 dc0 pm0 cd0 ct0 : Value}
    {od1 an1 : Option Addr} {sl1 : Array (Option Value)} {oc1 kV1 dc1 pm1 cd1 ct1 : Value}
    {od2 an2 : Option Addr} {sl2 : Array (Option Value)} {oc2 kV2 dc2 pm2 cd2 ct2 : Value}
    {od3 an3 : Option Addr} {sl3 : Array (Option Value)} {oc3 kV3 dc3 pm3 cd3 ct3 : Value}
    {od4 an4 : Option Addr} {sl4 : Array (Option Value)} {oc4 kV4 dc4 pm4 cd4 ct4 : Value}
    {od5 an5 : Option Addr} {sl5 : Array (Option Value)} {oc5 kV5 dc5 pm5 cd5 ct5 : Value}
    {od6 an6 : Option Addr} {sl6 : Array (Option Value)} {oc6 kV6 dc6 pm6 cd6 ct6 : Value}
    {od7 an7 : Option Addr} {sl7 : Array (Option Value)} {oc7 kV7 dc7 pm7 cd7 ct7 : Value}
    {od8 an8 : Option Addr} {sl8 : Array (Option Value)} {oc8 kV8 dc8 pm8 cd8 ct8 : Value}
    {od9 an9 : Option Addr} {sl9 : Array (Option Value)} {oc9 kV9 dc9 pm9 cd9 ct9 : Value}
    (a0 : PySem.W.nsIn K mainGlobals "is_integer" = some (some (.ref f0)))
    (l0 : K.lookup f0 = some ⟨oc0, od0, .func (PySem.W.fnOf "is_integer" "is_integer" (defArgs s_is_integer) (defBody s_is_integer) (defScope s_is_integer) .none kV0 dc0 pm0 an0 cd0 ct0), sl0⟩)
    (c0 : PySem.W.codeIn K cd0 "is_integer" = true) (k0 : PySem.W.keepIn K (.ref f0) = true)
    (a1 : PySem.W.nsIn K mainGlobals "is_count" = some (some (.ref f1)))
    (l1 : K.lookup f1 = some ⟨oc1, od1, .func (PySem.W.fnOf "is_count" "is_count" (defArgs s_is_count) (defBody s_is_count) (defScope s_is_count) .none kV1 dc1 pm1 an1 cd1 ct1), sl1⟩)
    (c1 : PySem.W.codeIn K cd1 "is_count" = true) (k1 : PySem.W.keepIn K (.ref f1) = true)
    (a2 : PySem.W.nsIn K mainGlobals "is_name" = some (some (.ref f2)))
    (l2 : K.lookup f2 = some ⟨oc2, od2, .func (PySem.W.fnOf "is_name" "is_name" (defArgs s_is_name) (defBody s_is_name) (defScope s_is_name) .none kV2 dc2 pm2 an2 cd2 ct2), sl2⟩)
    (c2 : PySem.W.codeIn K cd2 "is_name" = true) (k2 : PySem.W.keepIn K (.ref f2) = true)
    (a3 : PySem.W.nsIn K mainGlobals "_law_cell" = some (some (.ref f3)))
    (l3 : K.lookup f3 = some ⟨oc3, od3, .func (PySem.W.fnOf "_law_cell" "_law_cell" (defArgs s_law_cell) (defBody s_law_cell) (defScope s_law_cell) .none kV3 dc3 pm3 an3 cd3 ct3), sl3⟩)
    (c3 : PySem.W.codeIn K cd3 "_law_cell" = true) (k3 : PySem.W.keepIn K (.ref f3) = true)
    (a4 : PySem.W.nsIn K mainGlobals "_law_box" = some (some (.ref f4)))
    (l4 : K.lookup f4 = some ⟨oc4, od4, .func (PySem.W.fnOf "_law_box" "_law_box" (defArgs s_law_box) (defBody s_law_box) (defScope s_law_box) .none kV4 dc4 pm4 an4 cd4 ct4), sl4⟩)
    (c4 : PySem.W.codeIn K cd4 "_law_box" = true) (k4 : PySem.W.keepIn K (.ref f4) = true)
    (a5 : PySem.W.nsIn K mainGlobals "_law_take" = some (some (.ref f5)))
    (l5 : K.lookup f5 = some ⟨oc5, od5, .func (PySem.W.fnOf "_law_take" "_law_take" (defArgs s_law_take) (defBody s_law_take) (defScope s_law_take) .none kV5 dc5 pm5 an5 cd5 ct5), sl5⟩)
    (c5 : PySem.W.codeIn K cd5 "_law_take" = true) (k5 : PySem.W.keepIn K (.ref f5) = true)
    (a6 : PySem.W.nsIn K mainGlobals "_law_string" = some (some (.ref f6)))
    (l6 : K.lookup f6 = some ⟨oc6, od6, .func (PySem.W.fnOf "_law_string" "_law_string" (defArgs s_law_string) (defBody s_law_string) (defScope s_law_string) .none kV6 dc6 pm6 an6 cd6 ct6), sl6⟩)
    (c6 : PySem.W.codeIn K cd6 "_law_string" = true) (k6 : PySem.W.keepIn K (.ref f6) = true)
    (a7 : PySem.W.nsIn K mainGlobals "_law_is" = some (some (.ref f7)))
    (l7 : K.lookup f7 = some ⟨oc7, od7, .func (PySem.W.fnOf "_law_is" "_law_is" (defArgs s_law_is) (defBody s_law_is) (defScope s_law_is) .none kV7 dc7 pm7 an7 cd7 ct7), sl7⟩)
    (c7 : PySem.W.codeIn K cd7 "_law_is" = true) (k7 : PySem.W.keepIn K (.ref f7) = true)
    (a8 : PySem.W.nsIn K mainGlobals "_law_right" = some (some (.ref f8)))
    (l8 : K.lookup f8 = some ⟨oc8, od8, .func (PySem.W.fnOf "_law_right" "_law_right" (defArgs s_law_right) (defBody s_law_right) (defScope s_law_right) .none kV8 dc8 pm8 an8 cd8 ct8), sl8⟩)
    (c8 : PySem.W.codeIn K cd8 "_law_right" = true) (k8 : PySem.W.keepIn K (.ref f8) = true)
    (a9 : PySem.W.nsIn K mainGlobals "law" = some (some (.ref f9)))
    (l9 : K.lookup f9 = some ⟨oc9, od9, .func (PySem.W.fnOf "law" "law" (defArgs s_law) (defBody s_law) (defScope s_law) .none kV9 dc9 pm9 an9 cd9 ct9), sl9⟩)
    (c9 : PySem.W.codeIn K cd9 "law" = true) (k9 : PySem.W.keepIn K (.ref f9) = true)
    (z_all : PySem.W.nsIn K mainGlobals "all" = some none)
    (z_bool : PySem.W.nsIn K mainGlobals "bool" = some none)
    (z_int : PySem.W.nsIn K mainGlobals "int" = some none)
    (z_isinstance : PySem.W.nsIn K mainGlobals "isinstance" = some none)
    (z_len : PySem.W.nsIn K mainGlobals "len" = some none)
    (z_max : PySem.W.nsIn K mainGlobals "max" = some none)
    (z_min : PySem.W.nsIn K mainGlobals "min" = some none)
    (z_range : PySem.W.nsIn K mainGlobals "range" = some none)
    (z_str : PySem.W.nsIn K mainGlobals "str" = some none)
    (z_LETTERS : PySem.W.nsIn K mainGlobals "LETTERS" = some (some (.str ("abcdefghijklmnopqrstuvwxyz" : Str) t_LETTERS)))
    (z_LONGEST_NAME : PySem.W.nsIn K mainGlobals "LONGEST_NAME" = some (some (.int 8 t_LONGEST_NAME))) :
    ∃ fd : FuncData, (∀ (s : Shared) (v : Value), BindsTo s fd ⟨[v], []⟩ [("_law_script", v)]) ∧ ∀ base : Heap, K.In base → base.Ns mainGlobals mg → FnOk l.prog w K mg base CX0 4 fa fd ["_law_script"] (spLaw K) := by
  have e := hfa.symm.trans (PySem.W.mg_of X G a9)
  cases e
  have T : Txt mg := ⟨PySem.W.mg_none_of X G z_all, PySem.W.mg_none_of X G z_bool, PySem.W.mg_none_of X G z_int, PySem.W.mg_none_of X G z_isinstance, PySem.W.mg_none_of X G z_len, PySem.W.mg_none_of X G z_max, PySem.W.mg_none_of X G z_min, PySem.W.mg_none_of X G z_range, PySem.W.mg_none_of X G z_str, ⟨_, PySem.W.mg_of X G z_LETTERS⟩, ⟨_, PySem.W.mg_of X G z_LONGEST_NAME⟩⟩
  have F0 := fun_mk (st := s_is_integer) l0 c0 k0
  have b0 := F0.binds (ps := ["value"]) fun _ _ _ _ _ _ us hl => match us, hl with | [_], _ => rfl
  have F1 := fun_mk (st := s_is_count) l1 c1 k1
  have b1 := F1.binds (ps := ["value"]) fun _ _ _ _ _ _ us hl => match us, hl with | [_], _ => rfl
  have F2 := fun_mk (st := s_is_name) l2 c2 k2
  have b2 := F2.binds (ps := ["value"]) fun _ _ _ _ _ _ us hl => match us, hl with | [_], _ => rfl
  have F3 := fun_mk (st := s_law_cell) l3 c3 k3
  have b3 := F3.binds (ps := ["_law_script", "_law_k"]) fun _ _ _ _ _ _ us hl => match us, hl with | [_, _], _ => rfl
  have F4 := fun_mk (st := s_law_box) l4 c4 k4
  have b4 := F4.binds (ps := ["_law_cell_here"]) fun _ _ _ _ _ _ us hl => match us, hl with | [_], _ => rfl
  have F5 := fun_mk (st := s_law_take) l5 c5 k5
  have b5 := F5.binds (ps := ["_law_box_here", "_law_many"]) fun _ _ _ _ _ _ us hl => match us, hl with | [_, _], _ => rfl
  have F6 := fun_mk (st := s_law_string) l6 c6 k6
  have b6 := F6.binds (ps := ["_law_box_here"]) fun _ _ _ _ _ _ us hl => match us, hl with | [_], _ => rfl
  have F7 := fun_mk (st := s_law_is) l7 c7 k7
  have b7 := F7.binds (ps := ["_law_found", "_law_due"]) fun _ _ _ _ _ _ us hl => match us, hl with | [_, _], _ => rfl
  have F8 := fun_mk (st := s_law_right) l8 c8 k8
  have b8 := F8.binds (ps := ["_law_box_here"]) fun _ _ _ _ _ _ us hl => match us, hl with | [_], _ => rfl
  have F9 := fun_mk (st := s_law) l9 c9 k9
  refine ⟨PySem.W.fnOf "law" "law" (defArgs s_law) (defBody s_law) (defScope s_law) .none kV9 dc9 pm9 an9 cd9 ct9, fun s v => .of_eq rfl, fun base _ _ => ?_⟩
  have c0 := Cal.mk0 (ok_is_integer (P := l.prog) (w := w) (base := base) F0 T) (PySem.W.mg_of X G a0) F0.kp b0
  have c1 := Cal.mk0 (ok_is_count (P := l.prog) (w := w) (base := base) F1 T c0) (PySem.W.mg_of X G a1) F1.kp b1
  have c2 := Cal.mk0 (ok_is_name (P := l.prog) (w := w) (base := base) F2 T) (PySem.W.mg_of X G a2) F2.kp b2
  have c3 := Cal.mk0 (ok_cell (P := l.prog) (w := w) (base := base) F3 T) (PySem.W.mg_of X G a3) F3.kp b3
  have c4 := Cal.mk0 (ok_box (P := l.prog) (w := w) (base := base) F4 T) (PySem.W.mg_of X G a4) F4.kp b4
  have c5 := Cal.mk0 (ok_take (P := l.prog) (w := w) (K := K) (base := base) F5 T) (PySem.W.mg_of X G a5) F5.kp b5
  have c6 := Cal.mk0 (ok_string (P := l.prog) (w := w) (base := base) F6 T c5) (PySem.W.mg_of X G a6) F6.kp b6
  have c7 := Cal.mk0 (ok_is (P := l.prog) (w := w) (base := base) F7 T) (PySem.W.mg_of X G a7) F7.kp b7
  have c8 := Cal.mk0 (ok_right (P := l.prog) (w := w) (base := base) F8 T c5 c6 c7 c0 c1 c2) (PySem.W.mg_of X G a8) F8.kp b8
  exact ok_law F9 T c3 c4 c8
end Pk
open PySem PySem.W PyProof.Rows
set_option maxHeartbeats 0 in
theorem PySem.Challenge.cw_pileups_k01_kinds_of_words_holds : PySem.Challenge.rw_pileups_k01_kinds_of_words.Holds := by
  w_on; o_law; k_head; (case hw => w_witness2)
  k_fill
  refine L2.walk_of (l := PySem.Challenge.rw_pileups_k01_kinds_of_words) (n := 63) (k := 4) (x := "_law_script") (CX := fun _ => L2.CX0) (sp := fun w => Pk.spLaw _) rfl (by decide) rfl ⟨rfl, by decide, by decide⟩ (fun w h Y => PySem.W.kIn_of Y) ?F (fun _ _ a ns hl _ hS => ⟨a, ns, rfl, hS, hl, fun _ => rfl⟩) (fun _ _ _ _ _ h => h)
  case F =>
    intro w mg fa h KX G hmg
    refine' Pk.all_mk KX G hmg ?a0 ?l0 ?c0 ?k0 ?a1 ?l1 ?c1 ?k1 ?a2 ?l2 ?c2 ?k2 ?a3 ?l3 ?c3 ?k3 ?a4 ?l4 ?c4 ?k4 ?a5 ?l5 ?c5 ?k5 ?a6 ?l6 ?c6 ?k6 ?a7 ?l7 ?c7 ?k7 ?a8 ?l8 ?c8 ?k8 ?a9 ?l9 ?c9 ?k9 ?z_all ?z_bool ?z_int ?z_isinstance ?z_len ?z_max ?z_min ?z_range ?z_str ?z_LETTERS ?z_LONGEST_NAME
    (case a0 => k_is); (case l0 => k_is); (case c0 => k_is); (case k0 => k_is); (case a1 => k_is); (case l1 => k_is); (case c1 => k_is); (case k1 => k_is); (case a2 => k_is); (case l2 => k_is); (case c2 => k_is); (case k2 => k_is); (case a3 => k_is); (case l3 => k_is); (case c3 => k_is); (case k3 => k_is); (case a4 => k_is); (case l4 => k_is); (case c4 => k_is); (case k4 => k_is); (case a5 => k_is); (case l5 => k_is); (case c5 => k_is); (case k5 => k_is); (case a6 => k_is); (case l6 => k_is); (case c6 => k_is); (case k6 => k_is); (case a7 => k_is); (case l7 => k_is); (case c7 => k_is); (case k7 => k_is); (case a8 => k_is); (case l8 => k_is); (case c8 => k_is); (case k8 => k_is); (case a9 => k_is); (case l9 => k_is); (case c9 => k_is); (case k9 => k_is); (case z_all => k_is); (case z_bool => k_is); (case z_int => k_is); (case z_isinstance => k_is); (case z_len => k_is); (case z_max => k_is); (case z_min => k_is); (case z_range => k_is); (case z_str => k_is); (case z_LETTERS => k_is); (case z_LONGEST_NAME => k_is)
