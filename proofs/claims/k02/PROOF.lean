import PyProof.Rows.All
import Wide.All
import OpenK.AllK
import Wide.FinOn
import HandS.ForMost
import HandS.IsInst
import HandS.Walk
import HandS.Wide
import HandS.Ends
import PyProof.ReprRoads
import HandS.Defaults
import HandS.StrMore
import KE.IntTextText
import PySem.Challenge.RW_pileups_k02_numbers_and_words_of_texts
set_option Elab.async false
set_option linter.all false
set_option maxRecDepth 100000
set_option maxHeartbeats 2000000
/-! short rules for what the texts of this program write, whatever the kinds of the values are -/
namespace Pu
open PySem PySem.Spec PyProof.Rows L2
/-! ### rules with several readings -/
section
variable {X : Cx}
theorem pe_gi {x : Str} {pos : Pos} {n : Int} (hg : Gl X x) (hm : ∃ t, X.mg x = some (.int n t)) (hd : (x == ("__debug__" : Str)) = false := by decide) : PE X (.Name x pos) (tC (.int n)) := by
  obtain ⟨t, h⟩ := hm
  exact pe_glob hg h ⟨_, rfl⟩ hd
theorem pe_gs {x : Str} {pos : Pos} {z : Str} (hg : Gl X x) (hm : ∃ t, X.mg x = some (.str z t)) (hd : (x == ("__debug__" : Str)) = false := by decide) : PE X (.Name x pos) (tC (.str z)) := by
  obtain ⟨t, h⟩ := hm
  exact pe_glob hg h ⟨_, rfl⟩ hd
/-- a + b: ints, or texts, or lists -/
theorem oAdd : OpR X (binaryOp .Add) (fun x y H Q => rI0 (fun i j => .int (i + j)) x y H Q ∨ ((∃ i j, x = .str i ∧ y = .str j ∧ i.length + j.length ≤ sizeLine ∧ Q (.str (i ++ j)) H) ∨ rCat x y H Q)) := op_add.or (op_add_str.or op_cat)
/-! the same with the written part by name: inside a comprehension the context is another, K is not -/
theorem oIn (K : PySem.W.Frag) (h : X.K = K := by rfl) : OpR X (compareOp .In) (fun x y H Q => (∃ (c : Nat) (z : Str), x = .str ⟨#[c]⟩ ∧ y = .str z ∧ Q (.bl (decide (c ∈ z.cps.toList))) H) ∨ rIn K false x y H Q) := by
  subst h
  exact op_in_sign.or op_in_seq
theorem oNotIn (K : PySem.W.Frag) (h : X.K = K := by rfl) : OpR X (compareOp .NotIn) (fun x y H Q => (∃ (c : Nat) (z : Str), x = .str ⟨#[c]⟩ ∧ y = .str z ∧ Q (.bl (!decide (c ∈ z.cps.toList))) H) ∨ rIn K true x y H Q) := by
  subst h
  exact op_notIn_sign.or op_notIn_seq
theorem ixL (K : PySem.W.Frag) (h : X.K = K := by rfl) : IxR X (rIxL K) := by
  subst h
  exact ix_list
theorem ixT (K : PySem.W.Frag) (h : X.K = K := by rfl) : IxR X (rIxT K) := by
  subst h
  exact ix_tup
theorem slL (K : PySem.W.Frag) (h : X.K = K := by rfl) : SlR X (rSlL K) := by
  subst h
  exact sl_list
theorem slT (K : PySem.W.Frag) (h : X.K = K := by rfl) : SlR X (rSlT K) := by
  subst h
  exact sl_tup
theorem isiK (K : PySem.W.Frag) (h : X.K = K := by rfl) : CallR X (.builtin "isinstance") (rIsi K) := by
  subst h
  exact call_isi
/-- len(x): a list, a tuple, or a text -/
theorem lenK (K : PySem.W.Frag) (h : X.K = K := by rfl) : CallR X (.builtin "len") (fun xs H Q => (∃ p ys, xs = [.ref p] ∧ (SqL K H p ys ∨ SqT K H p ys) ∧ Q (.int ys.length) H) ∨ ∃ z, xs = [.str z] ∧ z.length ≤ sizeLine ∧ Q (.int z.length) H) := by
  subst h
  exact call_len_seq.or call_len_str
end
/-! ### a def of the module, as its callers see it -/
structure Cal (P : Program) (w : World) (K : PySem.W.Frag) (mg : Str → Option Value) (base : Heap) (k : Nat) (x : Str) (sp : Sp) (dvs : List V) : Prop where
  ex : ∃ (f : Addr) (fd : FuncData) (ps : List Str) (ds : List Value), FnOk P w K mg base CX0 k f fd ps sp ∧ mg x = some (.ref f) ∧ PySem.W.keepIn K (.ref f) = true ∧ Binds K fd ps ds ∧ Vals dvs ds
theorem Cal.mk0 {P : Program} {w : World} {K : PySem.W.Frag} {mg : Str → Option Value} {base : Heap} {k : Nat} {x : Str} {sp : Sp} {f : Addr} {fd : FuncData} {ps : List Str} (F : FnOk P w K mg base CX0 k f fd ps sp) (hm : mg x = some (.ref f)) (kp : PySem.W.keepIn K (.ref f) = true) (b : Binds K fd ps []) : Cal P w K mg base k x sp [] :=
  ⟨f, fd, ps, [], F, hm, kp, b, .nil⟩
theorem pe_c {X : Cx} {k j : Nat} {x : Str} {sp : Sp} {dvs : List V} {e : Expr} {es : List Expr} {t : TA} {p pos : Pos} (c : Cal X.prog X.w X.K X.mg X.base k x sp dvs) (hr : Room j X.A) (hk : k ≤ j) (hg : Gl X x) (ha : PA X (e :: es) t)
    (hdb : (x == ("__debug__" : Str)) = false := by decide) (he : starEach (e :: es) X.env = (false, eval e X.env) :: starEach es X.env := by rfl) (hpl : (backTo pos (starEach es X.env)).any (·.1) = false := by rfl) :
    PE X (.Call (.Name x p) (e :: es) [] pos) (tCall sp dvs E0 t) := by
  obtain ⟨f, fd, ps, ds, F, hm, kp, b, d⟩ := c.ex
  exact pe_call F (hr.mono hk) hg hm kp b d pass0 ha hdb he hpl
/-! ### a statement, then the rest, with a word of ours between them -/
def tCut (t u : TS) : TS := fun D σ H => ∃ Mid : L2.St → Hp → Prop, t { D with nx := Mid } σ H ∧ ∀ σ' H', Mid σ' H' → u D σ' H'
theorem pss_cut {X : Cx} {st : Stmt} {rest : List Stmt} {t u : TS} (h1 : PS X st t) (h2 : PSs X rest u) : PSs X (st :: rest) (tCut t u) := by
  refine ⟨fun pins s σ H D I ⟨Mid, hm, hu⟩ => ?_⟩
  refine wpAny_execs_cons (thn (h1.run pins s σ H { D with nx := Mid } I hm) fun f s1 q => ?_)
  cases f with
  | next =>
    obtain ⟨σ', H', I', q⟩ := q
    exact h2.run pins s1 σ' H' D I' (hu σ' H' q)
  | ret v => exact q
  | brk => exact q
  | cont => exact q
theorem same_upd {H : Hp} {p : Addr} {o : HO} (h : H p = none) : Same H (upd H p o) := fun b x e => by
  rw [upd_ne (ne_of_none e h)]
  exact e
/-! ### heaps that only grow, but for one object -/
def Ext (b : Addr) (H H' : Hp) : Prop := ∀ a o, a ≠ b → H a = some o → H' a = some o
theorem Ext.refl {b : Addr} (H : Hp) : Ext b H H := fun _ _ _ h => h
theorem Ext.trans {b : Addr} {H H1 H2 : Hp} (e : Ext b H H1) (f : Ext b H1 H2) : Ext b H H2 := fun a o n h => f a o n (e a o n h)
theorem Ext.new {b p : Addr} {H : Hp} {o : HO} (h : H p = none) : Ext b H (upd H p o) := fun a o _ e => by
  rw [upd_ne (ne_of_none e h)]
  exact e
theorem Ext.at {b : Addr} {H : Hp} {o : HO} : Ext b H (upd H b o) := fun a u n e => by
  rw [upd_ne n]
  exact e
theorem Ext.mut {b p : Addr} {H H' : Hp} {o : HO} (e : Ext b H H') (h : H p = none) : Ext b H (upd H' p o) := fun a u n ha => by
  rw [upd_ne (ne_of_none ha h)]
  exact e a u n ha
/-! ### the three numbers that a law draws from -/
def Box (H : Hp) (b : Addr) (n : Int) : Prop := ∃ x y z : Int, H b = some (.lst [.int x, .int y, .int z]) ∧ 0 ≤ x ∧ 0 ≤ y ∧ y < 2147483648 ∧ 0 ≤ z ∧ z ≤ n
theorem Box.new {H : Hp} {b p : Addr} {n : Int} {o : HO} (h : Box H b n) (hp : H p = none) : Box (upd H p o) b n := by
  obtain ⟨x, y, z, e, r⟩ := h
  exact ⟨x, y, z, by rw [upd_ne (ne_of_none e hp)]; exact e, r⟩
theorem Box.upd {H : Hp} {b p : Addr} {n : Int} {o : HO} (h : Box H b n) (hp : b ≠ p) : Box (upd H p o) b n := by
  obtain ⟨x, y, z, e, r⟩ := h
  exact ⟨x, y, z, by rw [upd_ne hp]; exact e, r⟩
theorem Box.ne {H : Hp} {b p : Addr} {n : Int} (h : Box H b n) (hp : H p = none) : b ≠ p := by
  obtain ⟨x, y, z, e, r⟩ := h
  exact ne_of_none e hp
theorem Box.mono {H : Hp} {b : Addr} {n m : Int} (h : Box H b n) (hp : n ≤ m) : Box H b m := by
  obtain ⟨x, y, z, e, r1, r2, r3, r4, r5⟩ := h
  exact ⟨x, y, z, e, r1, r2, r3, r4, by omega⟩
theorem sz (n : Nat) (h : n ≤ 100000 := by first | decide | omega) : n ≤ sizeLine := Nat.le_trans h (by decide)
/-- draws a number below m -/
def spTake : Sp := fun vs H Q _ => ∃ (b : Addr) (m n : Int), vs = [.ref b, .int m] ∧ 0 < m ∧ m < 2 ^ 140 ∧ n ≤ 1000000 ∧ Box H b n ∧
  ∀ d H', 0 ≤ d → d < m → Box H' b (n + 1) → Ext b H H' → Q (.int d) H'
def spCell (K : PySem.W.Frag) : Sp := fun vs H Q _ => ∃ (a : Addr) (ns : List Int) (k : Nat), vs = [.ref a, .int k] ∧ SqL K H a (ns.map V.int) ∧ ∀ i, Q (.int i) H
def spBox : Sp := fun vs H Q _ => ∃ i : Int, vs = [.int i] ∧ ∀ p H', H p = none → Box H' p 0 → (∀ a, a ≠ p → H' a = H a) → Q (.ref p) H'
end Pu

set_option Elab.async false
set_option linter.all false
set_option maxRecDepth 100000
set_option maxHeartbeats 2000000
namespace Pu
open PySem PySem.Spec PyProof.Rows L2
/-! ### an item at a drawn place -/
theorem pickN {α : Type} {xs : List α} {i : Int} (h0 : 0 ≤ i) (h1 : i < xs.length) : ∃ v, atI xs i = some v ∧ v ∈ xs := by
  obtain ⟨k, rfl⟩ := Int.eq_ofNat_of_zero_le h0
  have hk : k < xs.length := by omega
  exact ⟨xs[k], atI_nat (List.getElem?_eq_getElem hk), List.getElem_mem hk⟩
/-! ### texts: lengths -/
theorem len_app (x y : Str) : (x ++ y).length = x.length + y.length := PySem.Str.length_append x y
theorem len_cut (z : Str) (lo hi : Option Int) : (cutS z lo hi).length ≤ z.length := by
  show (List.toArray _).size ≤ z.cps.size
  rw [List.size_toArray, List.length_take, List.length_drop, Array.length_toList]
  show min _ (z.cps.size - _) ≤ z.cps.size
  omega
theorem sum_app (xs ys : List Nat) : (xs ++ ys).sum = xs.sum + ys.sum := List.sum_append
theorem len_join0 : ∀ ys : List Str, (Txt.join ("" : Str) ys).length = (ys.map (·.length)).sum := by
  intro ys
  rw [show Txt.join ("" : Str) ys = PySem.Str.join ("" : Str) ys from PySem.StrLaws.glued_eq_join _ _]
  induction ys with
  | nil => rfl
  | cons x r ih =>
    cases r with
    | nil =>
      show x.length = x.length + 0
      rfl
    | cons y r =>
      show (x ++ ("" : Str) ++ PySem.Str.join ("" : Str) (y :: r)).length = _
      rw [len_app, len_app, ih]
      show x.length + 0 + _ = x.length + _
      rfl
theorem len_one (c : Nat) : (⟨#[c]⟩ : Str).length = 1 := rfl
/-- texts of one sign each -/
theorem sum_ones : ∀ ys : List Str, (∀ y ∈ ys, y.length = 1) → (ys.map (·.length)).sum = ys.length
  | [], _ => rfl
  | y :: r, h => by
    rw [List.map_cons, List.sum_cons, List.length_cons, h y (List.mem_cons_self ..), sum_ones r fun z hz => h z (List.mem_cons_of_mem _ hz)]
    omega
end Pu

set_option Elab.async false
set_option linter.all false
set_option maxRecDepth 100000
set_option maxHeartbeats 4000000
/-! what a def may know of the shows (repr) that are under way around it: none. A def that says repr keeps its promise there alone, and so do its callers. -/
namespace Pu
open PySem PySem.Spec PyProof.Rows L2
structure FnG (P : Program) (w : World) (K : PySem.W.Frag) (mg : Str → Option Value) (base : Heap) (CX : CXT) (k : Nat) (f : Addr) (fd : FuncData) (ps : List Str) (sp : Sp) : Prop where
  arity : ∀ args H Q E, sp args H Q E → args.length = ps.length
  go : ∀ (A : Around) (outer : List Env) (s : Shared) (H : Hp) (given : Args) (ws : List Value) (args : List V) (Q : VK) (E : XK), A.guards = some [] → Room k A → Env0 P w K mg base A outer s H → BindsTo s fd given (ps.zip ws) → Vals args ws → sp args H Q E →
    codeAny (model P w) A (.call (.ref f) given) (CR CX outer P w H s Q E) s
section
variable {P : Program} {w : World} {K : PySem.W.Frag} {mg : Str → Option Value} {base : Heap} {CX : CXT}
/-- a def of the text, its body walked where no show is under way -/
theorem fnG {x qual : Str} {st : Stmt} {f : Addr} {fd : FuncData} {N ps : List Str} {k : Nat} {sp : Sp} (F : Fun K x qual st f fd) (S : FnScope N ps (defScope st)) (ar : ∀ args H Q E, sp args H Q E → args.length = ps.length)
    (body : ∀ (cdv : Value) (A : Around) (outer : List Env) (s : Shared) (H : Hp) (args : List V) (Q : VK) (E : XK), A.guards = some [] → Room k (A.deeper (envOfC qual (defScope st) s.heap.objs.size f cdv)) → sp args H Q E →
      ∃ t, PSs (cxOf CX P w K mg base N qual (defScope st) f cdv A outer s H E).nox (defBody st) t ∧ t { nx := fun _ H' => Q .non H', rt := Q } (start N args) H) : FnG P w K mg base CX (k + 1) f fd ps sp := by
  obtain ⟨oc, od, kV, doc, pm, an, cdv, ct, osl, hfd, lk, hcd⟩ := F.ex
  subst hfd
  constructor
  · exact ar
  intro A outer s H given ws args Q E hG hr e0 hb rv hs
  have nargs := ar _ _ _ _ hs
  have inK : K.In s.heap := e0.mod.kin.keeps fun b o z => (e0.bs b o z).1
  have free : s.heap.NoLimit := e0.mod.nolimit.keeps fun b o z => (e0.bs b o z).1
  have kinds : ∀ y ∈ ps.zip ws, (defScope st).names.lookup y.1 = some .local ∨ ((defScope st).names.lookup y.1 = some .cell ∧ ((cellsFrom (s.heap.objs.size + 1) (defScope st).names []).lookup y.1).isSome = true) := by
    rintro ⟨n, v⟩ hy
    exact (S.par n (List.of_mem_zip hy).1).imp id fun q => ⟨q, PySem.W.cellsFrom_some _ _ _ (.inl q)⟩
  refine codeAny_call_function hr.depth (inK _ _ lk) rfl S.co S.gen rfl (PySem.W.codeRec_of inK hcd) (hb _ _ _ _ (wpAny_newFunctionEnv_cells S.kind kinds ?_))
  rintro env rfl s1 made
  refine ⟨free.keeps made.toInCall.keep, codeAny_func ?_⟩
  obtain ⟨t, walk, read⟩ := body cdv A outer s H args Q E hG (hr.deeper _) hs
  have I0 : Inv (cxOf CX P w K mg base N qual (defScope st) f cdv A outer s H E) [] (start N args) H s1 := inv_start S hr.hd e0 nargs rv made
  have over : ∀ (σ' : L2.St) (H' : Hp) (v : V) (u : Value) (s' : Shared), Inv (cxOf CX P w K mg base N qual (defScope st) f cdv A outer s H E) [] σ' H' s' → RelV v u → Q v H' → CE outer P w H s Q u s' := by
    intro σ' H' v u s' J r q
    exact ⟨v, H', J.os, J.bare, J.base, J.hok, r, q⟩
  refine wpAny_mono (walk.nox.run [] s1 (start N args) H _ I0 read) ?_ (fun _ _ z => z)
  rintro (_ | _ | _ | u) s' z
  · obtain ⟨σ', H', J, q⟩ := z
    exact over σ' H' .non Value.none s' J rfl q
  · exact (z.elim fun _ r => r.elim fun _ r => r.2.elim)
  · exact (z.elim fun _ r => r.elim fun _ r => r.2.elim)
  · obtain ⟨v, σ', H', J, r, q⟩ := z
    exact over σ' H' v u s' J r q
end
/-- such a def of the module, as its callers see it -/
structure CalG (P : Program) (w : World) (K : PySem.W.Frag) (mg : Str → Option Value) (base : Heap) (k : Nat) (x : Str) (sp : Sp) : Prop where
  ex : ∃ (f : Addr) (fd : FuncData) (ps : List Str), FnG P w K mg base CX0 k f fd ps sp ∧ mg x = some (.ref f) ∧ PySem.W.keepIn K (.ref f) = true ∧ Binds K fd ps []
theorem CalG.mk0 {P : Program} {w : World} {K : PySem.W.Frag} {mg : Str → Option Value} {base : Heap} {k : Nat} {x : Str} {sp : Sp} {f : Addr} {fd : FuncData} {ps : List Str} (F : FnG P w K mg base CX0 k f fd ps sp) (hm : mg x = some (.ref f)) (kp : PySem.W.keepIn K (.ref f) = true) (b : Binds K fd ps []) : CalG P w K mg base k x sp :=
  ⟨f, fd, ps, F, hm, kp, b⟩
theorem pe_cG {X : Cx} {k j : Nat} {x : Str} {sp : Sp} {e : Expr} {es : List Expr} {t : TA} {p pos : Pos} (c : CalG X.prog X.w X.K X.mg X.base k x sp) (hG : X.A.guards = some []) (hr : Room j X.A) (hk : k ≤ j) (hg : Gl X x) (ha : PA X (e :: es) t)
    (hdb : (x == ("__debug__" : Str)) = false := by decide) (he : starEach (e :: es) X.env = (false, eval e X.env) :: starEach es X.env := by rfl) (hpl : (backTo pos (starEach es X.env)).any (·.1) = false := by rfl) :
    PE X (.Call (.Name x p) (e :: es) [] pos) (tCall sp [] E0 t) := by
  obtain ⟨f, fd, ps, F, hm, kp, bd⟩ := c.ex
  constructor
  intro pins s σ H Q I read
  refine wpAny_Call_Name_kw (ld_glob I hg hm (PySem.W.callWith_K (h₀ := X.base) I.ok.mod.kin kp (thn (ha.run pos pins s σ H _ I read) ?_) he hpl) hdb)
  rintro us s1 ⟨vs, H1, I1, rv, q⟩
  refine ⟨I1.kIn, wpAny_call ?_⟩
  have q' : sp vs H1 Q E0 := by
    have := q
    rw [List.append_nil] at this
    exact this
  have hl : us.length = ps.length := by
    rw [← rv.length]
    exact F.arity _ _ _ _ q'
  have hb := bd s1 us I1.kIn (by rw [List.append_nil]; exact hl)
  rw [List.append_nil] at hb
  refine codeAny_mono (F.go X.A X.stack s1 H1 ⟨us, []⟩ us vs Q E0 hG (hr.mono hk) I1.env0 hb rv q') ?_
  rintro (e | (_ | _ | _ | u)) s2 z
  · exact (pass0 pins σ H1 s1 e s2 I1 z)
  · exact (show False from z).elim
  · exact (show False from z).elim
  · exact (show False from z).elim
  · exact I1.after z
end Pu

set_option Elab.async false
set_option linter.all false
set_option maxRecDepth 100000
set_option maxHeartbeats 4000000
/-! the end of a law whose def says repr; repr itself, of plain data of any depth -/
namespace Pu
open PySem PySem.Spec PyProof.Rows L2
section
variable {P : Program} {w : World} {K : PySem.W.Frag} {mg mb : Str → Option Value}
/-- the heap that is told of at the law's start: the script alone, if it is no object of the text's own -/
theorem start_env {s₁ : Shared} {a : Addr} {vs : List Value} {ns : List Int} (KX : K.In s₁.heap) (hm : s₁.heap.Ns mainGlobals mg) (hb : s₁.heap.Ns builtinsNs mb) (hbb : ∀ x : Str, x ≠ "__name__" → mb x = bootBuiltins x) (hl : s₁.heap.NoLimit) (hg : s₁.gens = #[])
    (ha : s₁.heap.get? a = some { cls := .type "list", data := .seq vs.toArray }) (hi : IntsAre vs ns) (hz : ns.length ≤ sizeLine) :
    ∃ H : Hp, SqL K H a (ns.map V.int) ∧ K.In (hidT s₁.heap H) ∧ (hidT s₁.heap H).Ns mainGlobals mg ∧ Env0 P w K mg (hidT s₁.heap H) callerA [] s₁ H ∧
      ∀ (H' : Hp) (s' : Shared), Un (frs []) [] H H' s₁.heap s'.heap → HOk P w H' s'.heap → OldK s₁.heap s'.heap := by
  have rv := vals_ints hi
  have key : ∃ H : Hp, SqL K H a (ns.map V.int) ∧ (∀ b u, H b = some u → b = a ∧ K.lookup a = none ∧ u = .frz { cls := .type "list", data := .seq vs.toArray } (.lst (ns.map V.int))) := by
    cases hk : K.lookup a with
    | none =>
      refine ⟨fun b => if b = a then some (.frz { cls := .type "list", data := .seq vs.toArray } (.lst (ns.map V.int))) else none, .inl (.inr ⟨_, if_pos rfl⟩), fun b u z => ?_⟩
      have z : (if b = a then some (HO.frz { cls := .type "list", data := .seq vs.toArray } (.lst (ns.map V.int))) else none) = some u := z
      by_cases hb : b = a
      · rw [if_pos hb] at z
        exact ⟨hb, rfl, (Option.some.inj z).symm⟩
      · rw [if_neg hb] at z
        cases z
    | some o =>
      have e := ha.symm.trans (KX a o hk)
      cases e
      exact ⟨fun _ => none, .inr ⟨_, vs.toArray, _, hk, rfl, rfl, rfl, by rw [List.size_toArray, hi.length]; exact hz, rv⟩, fun b u z => by cases z⟩
  obtain ⟨H, hS, only⟩ := key
  have get : ∀ {b : Addr} {o : Obj}, s₁.heap.get? b = some o → (∀ u, H b = some u → False) → (hidT s₁.heap H).get? b = some o := fun {b o} e n => hidT_get e (by
    cases q : H b with
    | none => rfl
    | some u => exact (n u q).elim)
  have noDict : ∀ {b : Addr} {o : Obj} {es : Array DictEntry} {ep : Nat}, s₁.heap.get? b = some o → o.data = .dict es ep → ∀ u, H b = some u → False := fun {b o es ep} e d u z => by
    obtain ⟨rfl, _, _⟩ := only b u z
    rw [ha] at e
    cases e
    cases d
  have ns : ∀ {b : Addr} {m : Str → Option Value}, s₁.heap.Ns b m → (hidT s₁.heap H).Ns b m := fun ⟨o, es, ep, e, d, r⟩ => ⟨o, es, ep, get e (noDict e d), d, r⟩
  have inK : K.In (hidT s₁.heap H) := fun b o e => get (KX b o e) fun u z => by
    obtain ⟨rfl, n, _⟩ := only b u z
    rw [n] at e
    cases e
  have ok : HOk P w H s₁.heap := fun b u z => by
    obtain ⟨rfl, _, rfl⟩ := only b u z
    exact ⟨ha, by rw [List.length_map]; exact hz, vs, _, rv, ha⟩
  refine ⟨H, hS, inK, ns hm, ⟨rfl, ⟨inK, ns hm, ⟨mb, ns hb, hbb⟩, ?_⟩, fun b o e => of_hidT e, Nat.le_of_eq (hidT_size _ _), trivial, ?_, ok, .of_eq hg⟩, ?_⟩
  · obtain ⟨mc, h1, h2⟩ := hl
    exact ⟨mc, ns h1, h2⟩
  · intro b z
    exact absurd (show b ∈ ([] : List Addr) from z) List.not_mem_nil
  · intro H' s' un ok'
    refine OldK.of_keep fun b o e => ?_
    cases q : H b with
    | none => exact un.keep b o e q (fun z => absurd (show b ∈ ([] : List Addr) from z) List.not_mem_nil) List.not_mem_nil
    | some u =>
      obtain ⟨rfl, _, rfl⟩ := only b u q
      have z := (ok' b _ (un.frzs b _ _ q)).1
      have e0 := (ok b _ q).1
      rw [e] at e0
      cases e0
      exact z
/-- the goal that k_head leaves, from the promise of a law that says repr -/
theorem walk_G {l : PySem.W.OpenLaw} {n k : Nat} {q : Program} {loose : List Str} {XP : (Str → Option Value) → Heap → Prop} {YP : World → Heap → Prop} {d : DefRec} {K : Params → PySem.W.Frag} {sp : World → Sp} {x : Str}
    (hn : l.most = some n) (hn2 : n ≤ sizeLine) (hdf : d.params.defaults = []) (hr : Room k callerA) (hY : ∀ (w : World) (h : Heap), YP w h → (K w.params).In h)
    (F : ∀ (w : World) (mg : Str → Option Value) (fa : Addr) (h : Heap), (K w.params).In h → h.Ns mainGlobals mg → mg d.name = some (.ref fa) →
      ∃ fd : FuncData, (∀ (s : Shared) (u : Value), BindsTo s fd ⟨[u], []⟩ [(x, u)]) ∧ ∀ base : Heap, (K w.params).In base → base.Ns mainGlobals mg → FnG l.prog w (K w.params) mg base CX0 k fa fd [x] (sp w))
    (hsp : ∀ (w : World) (H : Hp) (a : Addr) (ns : List Int), ns.length ≤ n → SqL (K w.params) H a (ns.map V.int) → sp w [.ref a] H (fun v _ => v = .bl true) fun _ _ _ => False) :
    PySem.W.WalkO q loose XP YP l.row.toRowW d [] (fun f vs => PySem.call f vs) := by
  refine Att.attach_call hn hdf ?_
  intro w s₀ s₁ mg mb fa o pm cd doc a vs ns G Y ho hd hcd hmg hobj hints hlen hg
  have KX := hY w _ Y
  obtain ⟨fd, hb, hF⟩ := F w mg fa _ KX G.T.g hmg
  obtain ⟨H, hS, hK, hN, e0, old⟩ := start_env (P := l.prog) (w := w) KX G.T.g G.T.b G.T.builtins G.T.nolimit hg hobj hints (Nat.le_trans hlen hn2)
  refine codeAny_mono ((hF _ hK hN).go callerA [] s₁ H ⟨[.ref a], []⟩ [.ref a] [.ref a] _ _ rfl hr e0 (hb s₁ (.ref a)) (.cons rfl .nil) (hsp w H a ns hlen hS)) ?_
  rintro (e | (_ | _ | _ | u)) s' z
  · exact (show False from z).elim
  · exact (show False from z).elim
  · exact (show False from z).elim
  · exact (show False from z).elim
  · obtain ⟨v, H', os, bare, un, ok', r, rfl⟩ := z
    cases (show u = Value.bool true from r)
    exact ⟨rfl, old H' s' un ok', os, bare⟩
end
/-! ### repr -/
mutual
theorem Dp.noDict {K : PySem.W.Frag} {H : Hp} : ∀ {d : PyData} {v : V}, Dp K H v d → d.hasDict = false
  | .none, _, _ => by simp only [PyData.hasDict]
  | .bool _, _, _ => by simp only [PyData.hasDict]
  | .int _, _, _ => by simp only [PyData.hasDict]
  | .str _, _, _ => by simp only [PyData.hasDict]
  | .list _, _, h => by
    cases h with
    | lst _ ha =>
      simp only [PyData.hasDict]
      exact DpAll.noDict ha
  | .tuple _, _, h => by
    cases h with
    | tup _ ha =>
      simp only [PyData.hasDict]
      exact DpAll.noDict ha
  | .dict _, _, h => by cases h
theorem DpAll.noDict {K : PySem.W.Frag} {H : Hp} : ∀ {ds : List PyData} {vs : List V}, DpAll K H vs ds → PyData.hasDictAll ds = false
  | [], _, _ => by simp only [PyData.hasDictAll]
  | _ :: _, _, h => by
    cases h with
    | cons h1 h2 =>
      simp only [PyData.hasDictAll, Dp.noDict h1, DpAll.noDict h2, Bool.or_self]
end
def rRepr (K : PySem.W.Frag) : List V → Hp → VK → Prop := fun xs H Q => ∃ x d, xs = [x] ∧ Dp K H x d ∧ d.showable = true ∧ d.depth ≤ 40 ∧ d.shown.length ≤ sizeLine ∧ Q (.str d.shown) H
theorem reprG {X : Cx} (K : PySem.W.Frag) (hG : X.A.guards = some []) (hu : X.A.units + 64 < cLine) (hK : X.K = K := by rfl) : CallR X (.builtin "repr") (rRepr K) := by
  subst hK
  intro pins s σ H xs us Q I r h
  obtain ⟨x, d, rfl, hd, hs, hdp, hz, q⟩ := h
  obtain ⟨u, rfl, ru⟩ := vals1 r
  obtain ⟨as, rd⟩ := Dp.reads I d x u hd ru
  have nd := Dp.noDict hd
  have grown : ∀ (h' : Heap) (u' tk : Tok), (∀ b o, s.heap.get? b = some o → h'.get? b = some o) → EP X pins σ Q (.str d.shown u') { s with heap := h', toks := tk } := fun h' u' tk k =>
    ⟨.str d.shown, H, I.turnedL (ch := []) (fun b o _ e => k b o e) (fun _ hb => absurd hb List.not_mem_nil), ⟨u', rfl⟩, q⟩
  have same : ∀ (u' : Tok) (tk : Nat), EP X pins σ Q (.str d.shown u') { s with toks := tk } := fun u' tk => ⟨.str d.shown, H, I.tok _, ⟨u', rfl⟩, q⟩
  cases rd with
  | none => exact PySem.P.repr_of_none (same _ _)
  | bool b => exact PySem.P.repr_of_bool (same _ _)
  | int i t =>
    have hs' : decide (i.natAbs.log2 < 1920) = true := hs
    exact PySem.P.repr_of_int (of_decide_eq_true hs') (same _ _)
  | str z t => exact PySem.P.repr_of_str (same _ _) hz
  | list a1 a2 a3 a4 => exact repr_of_reads' (.list a1 a2 a3 a4) hs (PyData.noDict_hsm nd) hG (by omega) (fun _ _ e => e) grown hz
  | tuple a1 a2 a3 a4 => exact repr_of_reads' (.tuple a1 a2 a3 a4) hs (PyData.noDict_hsm nd) hG (by omega) (fun _ _ e => e) grown hz
  | dict _ _ _ _ _ => cases hd
end Pu

set_option Elab.async false
set_option linter.all false
set_option maxRecDepth 100000
set_option maxHeartbeats 4000000
/-! calls that name their arguments; how long a show is; != of lists -/
namespace Pu
open PySem PySem.Spec PyProof.Rows L2
structure CalN (P : Program) (w : World) (K : PySem.W.Frag) (mg : Str → Option Value) (base : Heap) (k : Nat) (x : Str) (n : Nat) (ks : List Str) (gV : List V → List V → List V) (sp : Sp) : Prop where
  ex : ∃ (f : Addr) (fd : FuncData) (ps : List Str) (g : List Value → List Value → List Value), FnOk P w K mg base CX0 k f fd ps sp ∧ mg x = some (.ref f) ∧ PySem.W.keepIn K (.ref f) = true ∧ KBn K fd ps n ks g gV
theorem pe_cN {X : Cx} {k j n : Nat} {x : Str} {ks : List Str} {gV : List V → List V → List V} {sp : Sp} {e : Expr} {es : List Expr} {kws : List Keyword} {t tk : TA} {p pos : Pos} (c : CalN X.prog X.w X.K X.mg X.base k x n ks gV sp) (hr : Room j X.A) (hk : k ≤ j) (hg : Gl X x) (ha : PA X (e :: es) t) (hw : PK X kws tk)
    (hall : (backToKw pos (keywordEach kws X.env)).all (·.1.isSome) = true := by rfl) (hks : (backToKw pos (keywordEach kws X.env)).filterMap (·.1) = ks := by rfl)
    (hdb : (x == ("__debug__" : Str)) = false := by decide) (he : starEach (e :: es) X.env = (false, eval e X.env) :: starEach es X.env := by rfl)
    (hpl : ((backTo pos (starEach (e :: es) X.env)).any (·.1) || (backToKw pos (keywordEach kws X.env)).any (·.1.isNone)) = false := by rfl) : PE X (.Call (.Name x p) (e :: es) kws pos) (tCallN n ks.length sp gV E0 t tk) := by
  obtain ⟨f, fd, ps, g, F, hm, kp, kb⟩ := c.ex
  exact pe_callN F (hr.mono hk) hg hm kp kb pass0 ha hw hall hks hdb he hpl
/-- keyword-only parameters alone have defaults; n values are written, the keywords ks too, those of ms lack -/
theorem kb0 {K : PySem.W.Frag} {x qual : Str} {params : Arguments} {body : List Stmt} {scope : Scope} {kws : List (Str × V)} {f : Addr} {fd : FuncData} {ps : List Str} (F : FunD K x qual params body scope [] kws f fd) (n : Nat) (ks : List Str) (ms : List (Str × V)) (g : {α : Type} → List α → List α → List α → List α) (hk : kws ≠ []) (hms : ∀ q ∈ ms, q ∈ kws)
    (hrel : ∀ {vs mz zs : List V} {us mv ws : List Value}, Vals vs us → Vals mz mv → Vals zs ws → Vals (g vs mz zs) (g us mv ws))
    (h : ∀ (D : Addr) (doc pm : Value) (an : Option Addr) (cdv ct : Value) (us mv ws : List Value), us.length = n → mv.length = ms.length → ws.length = ks.length →
      KwChain D ((ms.map (·.1)).zip mv) (bindArgs (PySem.W.fnOf x qual params body scope .none (.ref D) doc pm an cdv ct) ⟨us, ks.zip ws⟩) (ps.zip (g us mv ws))) :
    ∃ mv : List Value, KBn K fd ps n ks (fun us ws => g us mv ws) (fun vs zs => g vs (ms.map (·.2)) zs) := by
  obtain ⟨oc, od, dV, kV, doc, pm, an, cdv, ct, osl, hfd, lk, hcd, hD, hK⟩ := F.ex
  subst hfd
  rcases hD with ⟨_, rfl⟩ | ⟨z, _⟩
  · rcases hK with z | ⟨D, rfl, hq⟩
    · exact absurd z hk
    · obtain ⟨mv, hl, rk, hin⟩ := kwd_vals (ms := ms) fun q hm => hq q (hms q hm)
      exact ⟨mv, fun s us ws X l1 l2 => BindsTo.of_looks fun M => KwChain.looks X hin (h D doc pm an cdv ct us mv ws l1 hl l2), fun r1 r2 => hrel r1 rk r2⟩
  · exact absurd rfl z
/-! ### how long a show is -/
theorem textFrom0 (ts : List Str) (acc : Str) : (textFrom 0 acc ts).length ≤ acc.length + piled ts := by
  cases ts with
  | nil =>
    show acc.length ≤ _
    omega
  | cons t r =>
    have h := textFrom_length_pos r 1 (acc ++ t) (by decide)
    have e : textFrom 0 acc (t :: r) = textFrom 1 (acc ++ t) r := rfl
    rw [e, h, len_app, piled_cons]
    omega
theorem listText_le (ts : List Str) : (listText ts).length ≤ piled ts + 2 := by
  have h := textFrom0 ts "["
  have e : ("[" : Str).length = 1 := rfl
  have e2 : ("]" : Str).length = 1 := rfl
  show (textFrom 0 "[" ts ++ "]").length ≤ _
  rw [len_app, e2]
  omega
theorem int_len {i : Int} (h : i.natAbs < 10 ^ 40) : ((toString i : String) : Str).length ≤ 41 := by
  have e := int_text_length_le10 (k := 40) (by decide) h
  rw [PySem.ofString_length]
  omega
theorem log_small {i : Int} (h : i.natAbs < 10 ^ 40) : i.natAbs.log2 < 1920 := by
  by_cases h0 : i.natAbs = 0
  · rw [h0]
    decide
  · rw [Nat.log2_lt h0]
    exact Nat.lt_of_lt_of_le h (by decide +kernel)
/-! ### deep == and != with the written part by name -/
theorem eqDK {X : Cx} {k : Nat} (K : PySem.W.Frag) (hr : Room k X.A) (h : X.K = K := by rfl) : OpR X (compareOp .Eq) (rEqD K) := by
  subst h
  exact op_eqD hr.units
theorem neDK {X : Cx} {k : Nat} (K : PySem.W.Frag) (hr : Room k X.A) (h : X.K = K := by rfl) : OpR X (compareOp .NotEq) (rNeD K) := by
  subst h
  exact op_neD hr.units
/-! ### texts of small signs, lists of texts -/
def Asc (z : Str) : Prop := ∀ c ∈ z.cps.toList, c < 128
theorem asc_ok {z : Str} (h : Asc z) : PyData.canLay0 (.str z) = true := by
  simp only [PyData.canLay0]
  unfold PyData.strOk
  rw [Array.all_eq_true']
  intro c hc
  have := h c (Array.mem_toList_iff.mpr hc)
  simp
  omega
theorem asc_app {x y : Str} (hx : Asc x) (hy : Asc y) : Asc (x ++ y) := by
  intro c hc
  have e : (x ++ y).cps.toList = x.cps.toList ++ y.cps.toList := Array.toList_append
  rw [e] at hc
  rcases List.mem_append.mp hc with h | h
  · exact hx c h
  · exact hy c h
theorem asc_cut {z : Str} (h : Asc z) (lo hi : Option Int) : Asc (cutS z lo hi) := by
  intro c hc
  exact h c (List.mem_of_mem_drop (List.mem_of_mem_take hc))
theorem asc_one {c : Nat} (h : c < 128) : Asc ⟨#[c]⟩ := by
  intro d hd
  have : d = c := by simpa using hd
  omega
theorem asc_join {a : Str} (ha : Asc a) : ∀ {ys : List Str}, (∀ y ∈ ys, Asc y) → Asc (Txt.join a ys) := by
  intro ys
  rw [show Txt.join a ys = PySem.Str.join a ys from PySem.StrLaws.glued_eq_join _ _]
  induction ys with
  | nil =>
    intro _ c hc
    cases hc
  | cons x r ih =>
    intro h
    cases r with
    | nil => exact h x (List.mem_cons_self ..)
    | cons y r => exact asc_app (asc_app (h x (List.mem_cons_self ..)) ha) (ih fun z hz => h z (List.mem_cons_of_mem _ hz))
theorem len_join (a : Str) (ys : List Str) : (Txt.join a ys).length ≤ (ys.map (·.length)).sum + ys.length * a.length := by
  rw [show Txt.join a ys = PySem.Str.join a ys from PySem.StrLaws.glued_eq_join _ _]
  exact StrLaws.join_length_le a ys
theorem asc_nil : Asc ("" : Str) := fun c hc => by cases hc
theorem asc_dec (z : Str) (h : (z.cps.toList.all fun c => decide (c < 128)) = true) : Asc z := fun c hc => of_decide_eq_true (List.all_eq_true.mp h c hc)
theorem sum_le_of {ys : List Str} {m : Nat} (h : ∀ y ∈ ys, y.length ≤ m) : (ys.map (·.length)).sum ≤ m * ys.length := by
  induction ys with
  | nil => exact Nat.le_refl _
  | cons y r ih =>
    rw [List.map_cons, List.sum_cons, List.length_cons, Nat.mul_succ]
    have h1 := h y (List.mem_cons_self ..)
    have h2 := ih fun z hz => h z (List.mem_cons_of_mem _ hz)
    omega
/-! ### the show of a list of texts -/
theorem show_strs : ∀ ys : List Str, (∀ y ∈ ys, Asc y) → piled (PyData.shownAll (ys.map PyData.str)) ≤ 10 * (ys.map (·.length)).sum + 4 * ys.length
  | [], _ => Nat.zero_le _
  | y :: r, h => by
    have h1 := StrLaws.reprText_len y fun c hc => Nat.lt_trans (h y (List.mem_cons_self ..) c hc) (by decide)
    have h2 := show_strs r fun z hz => h z (List.mem_cons_of_mem _ hz)
    show piled (reprText y :: PyData.shownAll (r.map PyData.str)) ≤ _
    rw [piled_cons, List.map_cons, List.sum_cons, List.length_cons]
    omega
theorem shown_strs {ys : List Str} (h : ∀ y ∈ ys, Asc y) : (PyData.shown (.list (ys.map PyData.str))).length ≤ 10 * (ys.map (·.length)).sum + 4 * ys.length + 2 := by
  have h1 := show_strs ys h
  have h2 := listText_le (PyData.shownAll (ys.map PyData.str))
  show (listText (PyData.shownAll (ys.map PyData.str))).length ≤ _
  omega
theorem showable_strs : ∀ ys : List Str, PyData.showable (.list (ys.map PyData.str)) = true := by
  intro ys
  show PyData.showableAll (ys.map PyData.str) = true
  induction ys with
  | nil => rfl
  | cons y r ih =>
    show (true && PyData.showableAll (r.map PyData.str)) = true
    rw [ih]
    rfl
theorem depth_strs (ys : List Str) : PyData.depth (.list (ys.map PyData.str)) ≤ 40 := by
  have h2 : PyData.depthAll (ys.map PyData.str) = 0 := by
    induction ys with
    | nil => rfl
    | cons y r ih =>
      show max 0 (PyData.depthAll (r.map PyData.str)) = 0
      rw [ih]
      rfl
  simp only [PyData.depth, h2]
  decide
theorem dp_strs {K : PySem.W.Frag} {H : Hp} : ∀ ys : List Str, DpAll K H (ys.map V.str) (ys.map PyData.str)
  | [] => .nil
  | y :: r => .cons (.str y) (dp_strs r)
theorem shaped_strs (ys : List Str) (h : ∀ y ∈ ys, Asc y) : SeqAt.shaped (.list (ys.map PyData.str)) = true := by
  have h1 : PyData.canLayAll0 (ys.map PyData.str) = true := by
    induction ys with
    | nil => rfl
    | cons y r ih =>
      show (PyData.canLay0 (.str y) && PyData.canLayAll0 (r.map PyData.str)) = true
      rw [asc_ok (h y (List.mem_cons_self ..)), ih fun z hz => h z (List.mem_cons_of_mem _ hz)]
      rfl
  have h2 : PyData.depthAll (ys.map PyData.str) = 0 := by
    clear h1 h
    induction ys with
    | nil => rfl
    | cons y r ih =>
      show max 0 (PyData.depthAll (r.map PyData.str)) = 0
      rw [ih]
      rfl
  unfold SeqAt.shaped
  simp only [PyData.canLay0, PyData.depth, h1, h2, Bool.true_and]
  decide
theorem eqv_nil (ds : List PyData) : PyData.eqv (.list ds) (.list []) = decide (ds = []) := by
  cases ds with
  | nil => rfl
  | cons _ _ => rfl
end Pu

set_option Elab.async false
set_option linter.all false
set_option maxRecDepth 100000
set_option maxHeartbeats 2000000
/-! which texts are an integer as it is written -/
namespace Pz
open PySem PySem.Spec PyProof.Rows L2 Pu
open TL (tl numL)
def body : List Nat → List Nat
  | 45 :: r => r
  | cs => cs
def val : List Nat → Int
  | 45 :: r => -((NumText.digitsVal r : Nat) : Int)
  | cs => ((NumText.digitsVal cs : Nat) : Int)
def dig (c : Nat) : Bool := decide (48 ≤ c ∧ c ≤ 57)
def good (cs : List Nat) : Bool := decide (1 ≤ (body cs).length ∧ (body cs).length ≤ 30) && (body cs).all dig
def decB (cs : List Nat) : Bool := good cs && (!decide ((body cs).head? = some 48) || decide (cs = [48]))
def parse (cs : List Nat) : Option Int := if decB cs = true then some (val cs) else none
theorem body_minus (r : List Nat) : body (45 :: r) = r := rfl
theorem body_other {cs : List Nat} (h : cs.head? ≠ some 45) : body cs = cs := by
  unfold body
  split
  · exact absurd rfl h
  · rfl
theorem val_other {cs : List Nat} (h : cs.head? ≠ some 45) : val cs = ((NumText.digitsVal cs : Nat) : Int) := by
  unfold val
  split
  · exact absurd rfl h
  · rfl
theorem minus_or (cs : List Nat) : (∃ r, cs = 45 :: r) ∨ cs.head? ≠ some 45 := by
  cases cs with
  | nil => exact .inr (by decide)
  | cons c r =>
    by_cases h : c = 45
    · exact .inl ⟨r, by rw [h]⟩
    · exact .inr fun e => h (Option.some.inj e)
theorem allDig {cs : List Nat} (h : cs.all dig = true) : NumText.AllDigits cs := fun c hc => of_decide_eq_true (List.all_eq_true.mp h c hc)
/-- a number's text does not begin with 0, but for 0 itself -/
theorem numL_head : ∀ n : Nat, 0 < n → ∃ c r, numL n = c :: r ∧ 49 ≤ c := by
  intro n
  induction n using Nat.strongRecOn with
  | _ n ih =>
    intro h
    by_cases h1 : n < 10
    · exact ⟨48 + n, [], TL.numL_lt h1, by omega⟩
    · obtain ⟨c, r, e, hc⟩ := ih (n / 10) (by omega) (by omega)
      exact ⟨c, r ++ [48 + n % 10], by rw [TL.numL_step (by omega), e]; rfl, hc⟩
theorem numL_of {cs : List Nat} (hd : NumText.AllDigits cs) (hne : cs ≠ []) (h0 : cs.head? ≠ some 48 ∨ cs = [48]) : numL (NumText.digitsVal cs) = cs := by
  obtain ⟨c, r, rfl⟩ : ∃ c r, cs = c :: r := by
    cases cs with
    | nil => exact absurd rfl hne
    | cons c r => exact ⟨c, r, rfl⟩
  have hc := hd c (List.mem_cons_self ..)
  have e := NumText.toDigits_digitsVal r.length (c :: r) rfl hd (by
    rcases h0 with h0 | h0
    · refine .inr ⟨c, r, rfl, ?_⟩
      have : c ≠ 48 := fun z => h0 (by rw [z]; rfl)
      omega
    · have : r = [] := by
        injection h0
      exact .inl (by rw [this]; rfl))
  show (Nat.toDigits 10 (NumText.digitsVal (c :: r))).map Char.toNat = c :: r
  rw [e, List.map_map]
  refine (List.map_congr_left fun a ha => ?_).trans (List.map_id _)
  have h2 := hd a ha
  show (Char.ofNat a).toNat = id a
  have h3 : ∀ k : Nat, k < 58 → (Char.ofNat k).toNat = k := by decide
  exact h3 a (by omega)
theorem head_back {n : Nat} {cs : List Nat} (e : numL n = cs) : cs.head? ≠ some 48 ∨ cs = [48] := by
  by_cases h : n = 0
  · subst h
    exact .inr (e.symm.trans (TL.numL_lt (by decide)))
  · obtain ⟨c, r, e2, hc⟩ := numL_head n (by omega)
    refine .inl fun z => ?_
    rw [← e, e2] at z
    have : c = 48 := Option.some.inj z
    omega
/-- how an integer is written -/
def txt (i : Int) : List Nat := (Str.ofString (toString i)).cps.toList
theorem txt_nat (n : Nat) : txt (n : Int) = numL n := TL.tl_num n
theorem txt_neg {n : Nat} (h : 0 < n) : txt (-(n : Int)) = 45 :: numL n := by
  obtain ⟨m, rfl⟩ : ∃ m, n = m + 1 := ⟨n - 1, by omega⟩
  have e : (-((m + 1 : Nat) : Int)) = Int.negSucc m := rfl
  rw [e, ← txt_nat]
  unfold txt
  rw [Str.ofString_eq_toList, Str.ofString_eq_toList]
  show (("-" ++ toString (m + 1)).toList.map Char.toNat) = 45 :: ((toString (m + 1)).toList.map Char.toNat)
  rw [String.toList_append]
  rfl
theorem canon {cs : List Nat} (hg : good cs = true) : decB cs = true ↔ txt (val cs) = cs := by
  unfold decB
  rw [hg, Bool.true_and]
  unfold good at hg
  rw [Bool.and_eq_true] at hg
  have hl := of_decide_eq_true hg.1
  have hd := allDig hg.2
  have hne : body cs ≠ [] := fun e => by
    rw [e] at hl
    exact absurd hl.1 (by decide)
  have key : (!decide ((body cs).head? = some 48) || decide (cs = [48])) = true ↔ ((body cs).head? ≠ some 48 ∨ cs = [48]) := by
    rw [Bool.or_eq_true, Bool.not_eq_true', decide_eq_false_iff_not, decide_eq_true_iff]
  rw [key]
  rcases minus_or cs with ⟨r, rfl⟩ | hm
  · rw [body_minus] at hd hne ⊢
    show _ ↔ txt (-((NumText.digitsVal r : Nat) : Int)) = 45 :: r
    constructor
    · rintro (h | h)
      · by_cases h0 : NumText.digitsVal r = 0
        · exfalso
          have e := numL_of hd hne (.inl h)
          rw [h0, TL.numL_lt (by decide)] at e
          exact h (by rw [← e]; rfl)
        · rw [txt_neg (by omega), numL_of hd hne (.inl h)]
      · exact absurd h (by simp)
    · intro e
      by_cases h0 : NumText.digitsVal r = 0
      · rw [h0] at e
        have e2 : txt (-((0 : Nat) : Int)) = [48] := by
          show txt ((0 : Nat) : Int) = [48]
          rw [txt_nat]
          exact TL.numL_lt (by decide)
        rw [e2] at e
        exact absurd e (by simp)
      · rw [txt_neg (by omega)] at e
        have e3 : numL (NumText.digitsVal r) = r := by
          injection e
        rcases head_back e3 with h | h
        · exact .inl h
        · rw [h] at h0
          exact absurd rfl h0
  · rw [body_other hm] at hd hne ⊢
    rw [val_other hm, txt_nat]
    exact ⟨fun h => numL_of hd hne h, head_back⟩
/-- int(text) -/
theorem int_good {z : Str} (hg : good z.cps.toList = true) (hl : z.length ≤ 1000) : intText? z = some (val z.cps.toList) := by
  unfold good at hg
  rw [Bool.and_eq_true] at hg
  have hz := of_decide_eq_true hg.1
  have hd := allDig hg.2
  have hne : body z.cps.toList ≠ [] := fun e => by
    rw [e] at hz
    exact absurd hz.1 (by decide)
  rcases minus_or z.cps.toList with ⟨r, e⟩ | hm
  · rw [e, body_minus] at hd hne
    rw [e]
    exact intText_neg e hd hne (by omega)
  · rw [body_other hm] at hd hne
    rw [val_other hm]
    exact intText_digits hd hne (by omega)
theorem digitsVal_lt : ∀ cs : List Nat, NumText.AllDigits cs → NumText.digitsVal cs < 10 ^ cs.length := by
  have h : ∀ (cs : List Nat) (a : Nat), NumText.AllDigits cs → cs.foldl (fun acc c => acc * 10 + (c - 48)) a < (a + 1) * 10 ^ cs.length := by
    intro cs
    induction cs with
    | nil =>
      intro a _
      show a < (a + 1) * 1
      omega
    | cons c r ih =>
      intro a hd
      have hc := hd c (List.mem_cons_self ..)
      have h2 := ih (a * 10 + (c - 48)) (fun x hx => hd x (List.mem_cons_of_mem _ hx))
      rw [List.foldl_cons, List.length_cons]
      refine Nat.lt_of_lt_of_le h2 ?_
      rw [Nat.pow_succ, Nat.mul_comm (10 ^ r.length) 10, ← Nat.mul_assoc]
      exact Nat.mul_le_mul_right _ (by omega)
  intro cs hd
  have := h cs 0 hd
  rw [Nat.zero_add, Nat.one_mul] at this
  exact this
theorem val_small {cs : List Nat} (hg : good cs = true) : (val cs).natAbs < 10 ^ 30 := by
  unfold good at hg
  rw [Bool.and_eq_true] at hg
  have hz := of_decide_eq_true hg.1
  have hd := allDig hg.2
  have h1 := digitsVal_lt _ hd
  have h2 : 10 ^ (body cs).length ≤ 10 ^ 30 := Nat.pow_le_pow_right (by decide) hz.2
  rcases minus_or cs with ⟨r, rfl⟩ | hm
  · rw [body_minus] at h1 h2
    show (-((NumText.digitsVal r : Nat) : Int)).natAbs < 10 ^ 30
    rw [Int.natAbs_neg, Int.natAbs_natCast]
    exact Nat.lt_of_lt_of_le h1 h2
  · rw [body_other hm] at h1 h2
    rw [val_other hm, Int.natAbs_natCast]
    exact Nat.lt_of_lt_of_le h1 h2
/-! ### what the two sides cut off -/
theorem prefix_body (z : Str) : (Txt.removeprefix z ("-" : Str)).cps.toList = body z.cps.toList := by
  have hsub : Builtin.Str.subAt z ("-" : Str) 0 = decide (z.cps.toList.take 1 = [45]) := by
    show ((z.cps.extract 0 (0 + 1)) == (#[45] : Array Nat)) = _
    rw [Bool.eq_iff_iff, beq_iff_eq, decide_eq_true_iff, ← Array.toList_inj, Array.toList_extract]
    rfl
  unfold Txt.removeprefix
  rw [hsub]
  rcases minus_or z.cps.toList with ⟨r, e⟩ | hm
  · rw [e]
    have hl : z.length = r.length + 1 := by
      show z.cps.size = _
      rw [← Array.length_toList, e]
      rfl
    rw [if_pos (by simp)]
    show (if z.length - 1 == z.length then z else Builtin.Str.strSub z 1 z.length).cps.toList = r
    rw [if_neg (by
      rw [beq_iff_eq, hl]
      omega)]
    have h2 := TL.tl_strSub_end z 1
    show tl (Builtin.Str.strSub z 1 z.length) = r
    rw [h2]
    show z.cps.toList.drop 1 = r
    rw [e]
    rfl
  · rw [body_other hm]
    have hne : ¬ (z.cps.toList.take 1 = [45]) := fun e => by
      cases h : z.cps.toList with
      | nil =>
        rw [h] at e
        cases e
      | cons c r =>
        rw [h] at e hm
        have : c = 45 := (List.cons.inj e).1
        exact hm (by rw [this]; rfl)
    rw [if_neg (by
      rw [decide_eq_true_iff]
      exact hne)]
    rfl
theorem cut_head (z : Str) : (cutS z none (some 1)).cps.toList = z.cps.toList.take 1 := by
  show ((z.cps.toList.drop 0).take (min 1 z.length - 0)) = _
  rw [List.drop_zero, Nat.sub_zero]
  show z.cps.toList.take (min 1 z.cps.size) = _
  rw [← Array.length_toList, ← List.take_take, List.take_length]
theorem cut_tail (z : Str) : (cutS z (some 1) none).cps.toList = z.cps.toList.drop 1 := by
  show ((z.cps.toList.drop (min 1 z.length)).take (z.length - min 1 z.length)) = _
  have hl : z.length = z.cps.toList.length := by rw [Array.length_toList]; rfl
  rw [hl, List.take_of_length_le (by rw [List.length_drop]; exact Nat.le_refl _)]
  cases h : z.cps.toList with
  | nil => rfl
  | cons c r =>
    rw [List.length_cons, Nat.min_eq_left (by omega)]
theorem str_ext {x y : Str} (h : x.cps.toList = y.cps.toList) : x = y := by
  obtain ⟨a⟩ := x
  obtain ⟨b⟩ := y
  have e : a = b := Array.toList_inj.mp h
  rw [e]
theorem cut_minus (z : Str) : (cutS z none (some 1) = ("-" : Str)) ↔ ∃ r, z.cps.toList = 45 :: r := by
  constructor
  · intro e
    have h := cut_head z
    rw [e] at h
    cases h2 : z.cps.toList with
    | nil =>
      rw [h2] at h
      cases h
    | cons c r =>
      rw [h2] at h
      have : (45 : Nat) = c := (List.cons.inj h).1
      exact ⟨r, by rw [this]⟩
  · rintro ⟨r, e⟩
    refine str_ext ?_
    rw [cut_head, e]
    rfl
theorem cut_body (z : Str) : (if cutS z none (some 1) = ("-" : Str) then cutS z (some 1) none else z).cps.toList = body z.cps.toList := by
  by_cases h : cutS z none (some 1) = ("-" : Str)
  · rw [if_pos h, cut_tail]
    obtain ⟨r, e⟩ := (cut_minus z).mp h
    rw [e]
    rfl
  · rw [if_neg h]
    rcases minus_or z.cps.toList with hm | hm
    · exact absurd ((cut_minus z).mpr hm) h
    · exact (body_other hm).symm
/-! ### words -/
def step (acc : List (List Nat)) (c : Nat) : List (List Nat) := if c = 32 then acc ++ [[]] else acc.dropLast ++ [acc.getLastD [] ++ [c]]
def wf (cs : List Nat) : List (List Nat) := cs.foldl step [[]]
theorem step_last (pre : List (List Nat)) (a : List Nat) (c : Nat) (h : c ≠ 32) : step (pre ++ [a]) c = pre ++ [a ++ [c]] := by
  unfold step
  rw [if_neg h, List.dropLast_concat, List.getLastD_concat]
theorem wf_spl : ∀ (cs : List Nat) (pre : List (List Nat)) (a : List Nat), cs.foldl step (pre ++ [a]) = pre ++ TL.spl [32] 0 a cs := by
  intro cs
  induction cs with
  | nil =>
    intro pre a
    rfl
  | cons c r ih =>
    intro pre a
    rw [List.foldl_cons]
    by_cases h : c = 32
    · subst h
      rw [TL.spl_hit (show TL.pre [32] (32 :: r) = true from by simp [TL.pre])]
      show List.foldl step (step (pre ++ [a]) 32) r = _
      have e : step (pre ++ [a]) 32 = (pre ++ [a]) ++ [[]] := if_pos rfl
      rw [e, ih]
      show pre ++ [a] ++ TL.spl [32] 0 [] r = pre ++ (a :: TL.spl [32] 0 [] r)
      rw [List.append_assoc]
      rfl
    · rw [step_last _ _ _ h, ih]
      have e2 : TL.spl [32] 0 a (c :: r) = TL.spl [32] 0 (a ++ [c]) r := by
        have : TL.pre [32] (c :: r) = false := by
          show ((c :: r).take 1 == [32]) = false
          rw [Bool.eq_false_iff]
          intro z
          rw [beq_iff_eq] at z
          exact h (List.cons.inj z).1
        show (if TL.pre [32] (c :: r) = true then _ else _) = _
        rw [this]
        rfl
      rw [e2]
theorem split_wf (z : Str) : (Txt.split z (" " : Str)).map (·.cps.toList) = wf z.cps.toList := by
  have h := TL.split_spl z (" " : Str) (by decide +kernel) (by
    have h1 : Builtin.Str.strKind (" " : Str) = 1 := by decide +kernel
    have h2 : 1 ≤ Builtin.Str.strKind z := by
      unfold Builtin.Str.strKind
      split
      · exact Nat.le_refl _
      · split <;> decide
    rw [h1]
    omega)
  refine h.trans ?_
  show TL.spl [32] 0 [] z.cps.toList = wf z.cps.toList
  exact (wf_spl z.cps.toList [] []).symm
end Pz

set_option Elab.async false
set_option linter.all false
set_option maxRecDepth 100000
set_option maxHeartbeats 4000000
namespace Pk
open PySem PySem.Spec PyProof.Rows L2 Pu Pz
def topS (i : Nat) : Stmt := PySem.Challenge.pw_pileups_k02_numbers_and_words_of_texts.main.body.getD i (.Pass ⟨0, 0, 0, 0⟩)
structure Txt (mg : Str → Option Value) : Prop where
  m_abs : mg "abs" = none
  m_all : mg "all" = none
  m_int : mg "int" = none
  m_isinstance : mg "isinstance" = none
  m_len : mg "len" = none
  m_max : mg "max" = none
  m_min : mg "min" = none
  m_range : mg "range" = none
  m_repr : mg "repr" = none
  m_str : mg "str" = none
  m_DIGITS : ∃ t, mg "DIGITS" = some (.str ("0123456789" : Str) t)
  m_MOST_DIGITS : ∃ t, mg "MOST_DIGITS" = some (.int 30 t)
abbrev s_is_decimal : Stmt := topS 3
theorem sc_is_decimal : FnScope ["text", "digits", "digit"] ["text"] (defScope s_is_decimal) := ⟨rfl, rfl, rfl, by decide +kernel, rfl, by decide +kernel, by decide +kernel⟩
abbrev s_parse_integer : Stmt := topS 4
theorem sc_parse_integer : FnScope ["text", "low", "high", "number"] ["text", "low", "high"] (defScope s_parse_integer) := ⟨rfl, rfl, rfl, by decide +kernel, rfl, by decide +kernel, by decide +kernel⟩
abbrev s_split_words : Stmt := topS 5
theorem sc_split_words : FnScope ["text", "words"] ["text"] (defScope s_split_words) := ⟨rfl, rfl, rfl, by decide +kernel, rfl, by decide +kernel, by decide +kernel⟩
abbrev s_law_cell : Stmt := topS 7
theorem sc_law_cell : FnScope ["_law_script", "_law_k"] ["_law_script", "_law_k"] (defScope s_law_cell) := ⟨rfl, rfl, rfl, by decide +kernel, rfl, by decide +kernel, by decide +kernel⟩
abbrev s_law_box : Stmt := topS 8
theorem sc_law_box : FnScope ["_law_cell_here"] ["_law_cell_here"] (defScope s_law_box) := ⟨rfl, rfl, rfl, by decide +kernel, rfl, by decide +kernel, by decide +kernel⟩
abbrev s_law_take : Stmt := topS 9
theorem sc_law_take : FnScope ["_law_box_here", "_law_many", "_law_digit", "_law_number"] ["_law_box_here", "_law_many"] (defScope s_law_take) := ⟨rfl, rfl, rfl, by decide +kernel, rfl, by decide +kernel, by decide +kernel⟩

/-! ### kinds -/
def clss : List String := ["int", "bool", "str", "list", "tuple", "dict"]
def kinds : List String := ["NoneType", "bool", "int", "str", "list", "tuple", "dict"]
def isk (a b : String) : Bool := a == b || (a == "bool" && b == "int")
theorem kit_all : ∀ a ∈ kinds, ∀ b ∈ clss, kitB a b = some (isk a b) := by decide +kernel
theorem kitx {K : PySem.W.Frag} {T c : String} (hk : T ∈ kinds) (hc : c ∈ clss) : PySem.W.kitOne K (.type T) (.type c) = some (isk T c) := kit_ty (kit_all T hk c hc)
theorem kity {K : PySem.W.Frag} {T c : String} (b : Bool) (hk : T ∈ kinds) (hc : c ∈ clss) (e : isk T c = b) : PySem.W.kitOne K (.type T) (.type c) = some b := by rw [← e]; exact kitx hk hc
section
variable {P : Program} {w : World} {K : PySem.W.Frag} {mg : Str → Option Value} {base : Heap}
/-! ### the law's numbers -/
theorem ok_cell {f : Addr} {fd : FuncData} (F : Fun K "_law_cell" "_law_cell" s_law_cell f fd) (T : Txt mg) : FnOk P w K mg base CX0 1 f fd ["_law_script", "_law_k"] (Pu.spCell K) := by
  have nd := sc_law_cell.nd
  refine F.ok sc_law_cell (fun vs H Q E h => ?_) (fun cdv A outer s H vs Q E hr h => ?_)
  · obtain ⟨a, ns, k, rfl, _⟩ := h
    rfl
  · obtain ⟨a, ns, k, rfl, hS, q⟩ := h
    refine ⟨_, (pss_cons (ps_if (pt_cmpR op_lt (pv 1) (pe_callB (lenK K) (by rfl) T.m_len PySem.boot_len (pa_cons (pv 0) pa_nil)) (by rfl))
      (pss_one (ps_ret (pe_ix (ixL K) (pv 0) (pv 1) (fun _ _ => rfl)))) pss_nil)
      (pss_one (ps_ret (pe_op oAdd (pe_op op_mul pe_int (pv 1)) pe_int)))), ?_⟩
    refine ⟨_, rfl, _, rfl, .inl ⟨a, _, rfl, .inl hS, _, _, rfl, rfl, _, rfl, ite2 (fun e => ?_) (fun e => ?_)⟩⟩
    · have hk : k < ns.length := by
        have := of_decide_eq_true e
        rw [List.length_map] at this
        omega
      refine ⟨_, rfl, _, rfl, a, _, _, .int ns[k], rfl, rfl, hS, ?_, q _⟩
      exact atI_nat (by rw [List.getElem?_map, List.getElem?_eq_getElem hk]; rfl)
    · exact ⟨_, rfl, _, _, rfl, rfl, .inl ⟨by decide, by decide⟩, .inl ⟨_, _, rfl, rfl, q _⟩⟩
theorem ok_box {f : Addr} {fd : FuncData} (F : Fun K "_law_box" "_law_box" s_law_box f fd) (T : Txt mg) : FnOk P w K mg base CX0 1 f fd ["_law_cell_here"] spBox := by
  have nd := sc_law_box.nd
  refine F.ok sc_law_box (fun vs H Q E h => ?_) (fun cdv A outer s H vs Q E hr h => ?_)
  · obtain ⟨i, rfl, _⟩ := h
    rfl
  · obtain ⟨i, rfl, q⟩ := h
    refine ⟨_, (pss_one (ps_ret (pe_lst (pa_cons (pe_callB (call_max2 rfl) (by rfl) T.m_max PyProof.Rows.boot_max (pa_cons pe_int (pa_cons (pe_op op_sub (pv 0) (pe_op op_pow pe_int pe_int)) pa_nil))) (pa_cons (pe_op op_mod (pv 0) pe_int) (pa_cons pe_int pa_nil)))))), ?_⟩
    refine ⟨_, rfl, _, _, rfl, rfl, ⟨by decide, by decide, by decide⟩, _, _, rfl, rfl, _, _, rfl, _, rfl, _, _, rfl, rfl, (by show (0 : Int) < 2147483629; decide), sz 3, fun p hp => ?_⟩
    refine q p _ hp ⟨_, _, _, upd_same, ?_, ?_, ?_, ?_, ?_⟩ fun a ha => upd_ne ha
    · split <;> omega
    · exact Int.emod_nonneg _ (by decide)
    · have := Int.emod_lt_of_pos i (show (0 : Int) < 2147483629 by decide)
      omega
    · decide
    · decide
theorem ok_take {f : Addr} {fd : FuncData} (F : Fun K "_law_take" "_law_take" s_law_take f fd) (T : Txt mg) : FnOk P w K mg base CX0 1 f fd ["_law_box_here", "_law_many"] spTake := by
  have nd := sc_law_take.nd
  refine F.ok sc_law_take (fun vs H Q E h => ?_) (fun cdv A outer s H vs Q E hr h => ?_)
  · obtain ⟨b, m, n, rfl, _⟩ := h
    rfl
  · obtain ⟨b, m, n, rfl, hm, hm2, hn, ⟨x, y, z, hB, hx, hy, hy2, hz, hzn⟩, q⟩ := h
    refine ⟨_, (pss_cons (ps_if (pt_cmpR op_gt (pe_ix (ixL K) (pv 0) pe_int (fun _ _ => rfl)) pe_int (by rfl))
      (pss_cons (ps_set (i := 2) nd rfl (Or.inl rfl) (pe_op op_mod (pe_ix (ixL K) (pv 0) pe_int (fun _ _ => rfl)) (pv 1)))
      (pss_cons (ps_asg (pe_op op_fdivW (pe_ix (ixL K) (pv 0) pe_int (fun _ _ => rfl)) (pv 1)) (pg_sub (pv 0) pe_int set_list))
      (pss_one (ps_ret (pv 2))))) pss_nil)
      (pss_cons (ps_asg (pe_op oAdd (pe_ix (ixL K) (pv 0) pe_int (fun _ _ => rfl)) pe_int) (pg_sub (pv 0) pe_int set_list))
      (pss_cons (ps_set (i := 3) nd rfl (Or.inl rfl) (pe_op op_mod (pe_op op_pow (pe_op oAdd (pe_op oAdd (pe_ix (ixL K) (pv 0) pe_int (fun _ _ => rfl)) (pe_op op_mul pe_int (pe_ix (ixL K) (pv 0) pe_int (fun _ _ => rfl)))) pe_int) pe_int) pe_int))
      (pss_cons (ps_set (i := 3) nd rfl (Or.inl rfl) (pe_op op_mod (pe_op op_pow (pe_op oAdd (pv 3) (pe_op op_mul pe_int (pe_ix (ixL K) (pv 0) pe_int (fun _ _ => rfl)))) pe_int) pe_int))
      (pss_one (ps_ret (pe_op op_mod (pe_op op_fdiv (pv 3) pe_int) (pv 1)))))))), ?_⟩
    refine ⟨_, rfl, _, _, _, _, rfl, rfl, .inl (.inl hB), rfl, _, _, rfl, rfl, _, rfl, ite2 (fun e => ?_) (fun e => ?_)⟩
    · refine ⟨_, rfl, _, _, _, _, rfl, rfl, .inl (.inl hB), rfl, _, rfl, _, _, rfl, rfl, hm, ?_⟩
      refine ⟨_, rfl, _, _, _, _, rfl, rfl, .inl (.inl hB), rfl, _, rfl, _, _, rfl, rfl, (wide_div hm (show m.natAbs < 2 ^ 140 by omega) (by decide) (by decide)), _, rfl, _, _, _, _, rfl, rfl, hB, rfl, ?_⟩
      refine ⟨_, rfl, q _ _ (Int.emod_nonneg _ (by omega)) (Int.emod_lt_of_pos _ hm) ⟨_, _, _, upd_same, Int.ediv_nonneg hx (by omega), hy, hy2, hz, by omega⟩ Ext.at⟩
    · have hz2 : (0 : Int) ≤ z + 1 ∧ z + 1 ≤ 1000001 := by omega
      refine ⟨_, rfl, _, _, _, _, rfl, rfl, .inl (.inl hB), rfl, .inl ⟨_, _, rfl, rfl, _, rfl, _, _, _, _, rfl, rfl, hB, rfl, ?_⟩⟩
      have hB1 : (upd H b (.lst ([V.int x, V.int y, V.int z].set 2 (.int (z + 1))))) b = some (.lst [.int x, .int y, .int (z + 1)]) := upd_same
      have n1 : (0 : Int) ≤ (y + 7919 * (z + 1) + 43) := by omega
      have n2 : (y + 7919 * (z + 1) + 43) < 18446744073709551616 := by omega
      refine ⟨_, rfl, _, _, _, _, rfl, rfl, .inl (.inl hB1), rfl, _, rfl, _, _, _, _, rfl, rfl, .inl (.inl hB1), rfl, _, _, rfl, rfl, .inl ⟨by decide, by decide⟩, .inl ⟨_, _, rfl, rfl, .inl ⟨_, _, rfl, rfl,
        _, _, rfl, rfl, ⟨by decide, by decide, ?_⟩, _, _, rfl, rfl, (by show (0 : Int) < 2147483647; decide), ?_⟩⟩⟩
      · show (y + 7919 * (z + 1) + 43).natAbs < 2 ^ 64
        omega
      · have p0 : (0 : Int) ≤ ((y + 7919 * (z + 1) + 43) ^ (5 : Int).toNat) % 2147483647 := Int.emod_nonneg _ (by decide)
        have p1 : ((y + 7919 * (z + 1) + 43) ^ (5 : Int).toNat) % 2147483647 < 2147483647 := Int.emod_lt_of_pos _ (by decide)
        have e1 : ∀ g : Int, 0 ≤ g → g < 2147483647 → (g + 104729 * (z + 1)).natAbs < 2 ^ 64 := by
          intro g h0 h1
          omega
        refine ⟨_, rfl, _, rfl, _, _, _, _, rfl, rfl, .inl (.inl hB1), rfl, _, _, rfl, rfl, .inl ⟨by decide, by decide⟩, .inl ⟨_, _, rfl, rfl, _, _, rfl, rfl, ⟨by decide, by decide, e1 _ p0 p1⟩, _, _, rfl, rfl, (by show (0 : Int) < 2147483587; decide), ?_⟩⟩
        refine ⟨_, rfl, _, _, rfl, rfl, ⟨by decide, by decide⟩, _, rfl, _, _, rfl, rfl, hm, ?_⟩
        exact q _ _ (Int.emod_nonneg _ (by omega)) (Int.emod_lt_of_pos _ hm) ⟨_, _, _, hB1, hx, hy, hy2, hz2.1, by omega⟩ Ext.at

/-! ### the program -/
abbrev tens : Str := "0123456789"
theorem dig_tens (c : Nat) : decide (c ∈ tens.cps.toList) = dig c := by
  have e : tens.cps.toList = [48, 49, 50, 51, 52, 53, 54, 55, 56, 57] := by decide +kernel
  rw [e]
  unfold dig
  rw [Bool.eq_iff_iff, decide_eq_true_iff, decide_eq_true_iff]
  simp only [List.mem_cons, List.not_mem_nil, or_false]
  omega
theorem length_cps (z : Str) : z.cps.toList.length = z.length := Array.length_toList
/-- all([f(sign) for sign in text]) and the like: a list of what is told of each sign -/
def spDecimal : Sp := fun vs H Q _ => ∃ z : Str, vs = [.str z] ∧ z.length ≤ 1000 ∧ ∀ H', Same H H' → Q (.bl (decB z.cps.toList)) H'
theorem good_len {cs : List Nat} (h : ¬ (1 ≤ (body cs).length ∧ (body cs).length ≤ 30)) : decB cs = false := by
  unfold decB good
  rw [decide_eq_false h, Bool.false_and, Bool.false_and]
theorem good_all {cs : List Nat} (h : (body cs).all dig = false) : decB cs = false := by
  unfold decB good
  rw [h, Bool.and_false, Bool.false_and]
theorem good_rest {cs : List Nat} (h1 : 1 ≤ (body cs).length ∧ (body cs).length ≤ 30) (h2 : (body cs).all dig = true) : decB cs = (!decide ((body cs).head? = some 48) || decide (cs = [48])) := by
  unfold decB good
  rw [decide_eq_true h1, h2, Bool.true_and, Bool.true_and]
theorem head_is {b r : List Nat} {c : Nat} (h : b = c :: r) : decide (b.head? = some 48) = decide (c = 48) := by
  subst h
  rw [Bool.eq_iff_iff, decide_eq_true_iff, decide_eq_true_iff]
  exact ⟨Option.some.inj, fun e => by rw [e]; rfl⟩
theorem str_inj (x y : Str) : decide (V.str x = V.str y) = decide (x.cps.toList = y.cps.toList) := by
  rw [Bool.eq_iff_iff, decide_eq_true_iff, decide_eq_true_iff]
  exact ⟨fun e => by rw [V.str.inj e], fun e => by rw [str_ext e]⟩
theorem ok_decimal {f : Addr} {fd : FuncData} (F : Fun K "is_decimal" "is_decimal" s_is_decimal f fd) (T : Txt mg) : FnOk P w K mg base CX0 1 f fd ["text"] spDecimal := by
  have nd := sc_is_decimal.nd
  refine F.ok sc_is_decimal (fun vs H Q E h => ?_) (fun cdv A outer s H vs Q E hr h => ?_)
  · obtain ⟨_, rfl, _⟩ := h
    rfl
  · obtain ⟨z, rfl, hz, q⟩ := h
    refine ⟨_, (pss_cons (ps_set (i := 1) nd rfl (Or.inl rfl) (pe_bm PySem.F.plainAttrs_str PySem.F.slot_str_removeprefix PySem.F.type_str_removeprefix mt_removeprefix (pv 0) (pa_cons pe_str pa_nil)))
      (pss_cons (ps_if (pt_not (pt_chain op_le op_le pe_int (pe_callB (lenK K) (by rfl) T.m_len PySem.boot_len (pa_cons (pv 1) pa_nil)) (pe_gi rfl T.m_MOST_DIGITS)))
      (pss_one (ps_ret pe_bl)) pss_nil)
      (pss_cons (ps_if (pt_not (pt_val (pe_callB (cr_all rfl) (by rfl) T.m_all PyProof.Rows.boot_all (pa_cons (pe_lc (own := [("digit", 2)]) (g := gName 2) (tt := tYes) rfl nd (pi_str (pv 1)) (blkOk_by (N := ["text", "digits", "digit"]) (sc := defScope s_is_decimal) (by decide +kernel)) (fun _ _ _ _ _ => pg_name (i := 2) nd rfl (Or.inl rfl)) (fun _ _ _ _ _ => pts_nil) (fun _ _ _ _ _ => (pe_cmpR (oIn K) (pv 2) (pe_gs rfl T.m_DIGITS) (by rfl)))) pa_nil))))
      (pss_one (ps_ret pe_bl)) pss_nil)
      (pss_one (ps_ret (pe_or (pe_cmpR op_ne (pe_ix ix_str (pv 1) pe_int (fun _ _ => rfl)) pe_str (by rfl)) (pe_one (pe_cmpR op_eq (pv 0) pe_str (by rfl))))))))), ?_⟩
    refine ⟨_, rfl, rfl, z, _, rfl, rfl, sz _ (by omega), ?_⟩
    have hb : (Txt.removeprefix z ("-" : Str)).cps.toList = body z.cps.toList := prefix_body z
    have hlb : (Txt.removeprefix z ("-" : Str)).length = (body z.cps.toList).length := by rw [← hb, length_cps]
    have hle : (body z.cps.toList).length ≤ z.length := by
      rw [← length_cps z]
      rcases minus_or z.cps.toList with ⟨r, e⟩ | hm
      · rw [e]
        show r.length ≤ r.length + 1
        omega
      · rw [body_other hm]
        exact Nat.le_refl _
    refine ⟨_, rfl, .inr ⟨_, rfl, sz _ (by omega), _, _, rfl, rfl, _, rfl, ite2 (fun e1 => ⟨_, _, rfl, rfl, _, rfl, ite2 (fun e2 => ?_) (fun e2 => ?_)⟩) (fun e1 => ⟨_, rfl, ?_⟩)⟩⟩
    · have h1 : ¬ (((Txt.removeprefix z ("-" : Str)).length : Int) ≤ 30) := fun hh => by
        rw [decide_eq_true hh] at e2
        exact absurd e2 (by decide)
      have := q H (Same.refl H)
      rw [good_len (by omega)] at this
      exact this
    · have h1 : ((Txt.removeprefix z ("-" : Str)).length : Int) ≤ 30 := by
        by_cases hh : ((Txt.removeprefix z ("-" : Str)).length : Int) ≤ 30
        · exact hh
        · rw [decide_eq_false hh] at e2
          exact absurd rfl e2
      have h0 : (1 : Int) ≤ (Txt.removeprefix z ("-" : Str)).length := of_decide_eq_true e1
      have hlen : 1 ≤ (body z.cps.toList).length ∧ (body z.cps.toList).length ≤ 30 := by omega
      refine ⟨_, rfl, _, rfl, fun D hD => lc_it walk_str (fun i H' => Same H H' ∧ H' D = some (.lst ((((Txt.removeprefix z ("-" : Str)).cps.toList.take i).map dig).map V.bl))) ⟨same_upd hD, upd_same⟩ (fun _ _ _ _ => trivial) (fun i x H1 H2 hi p y => ?_) (fun H1 p => ?_)⟩
      · obtain ⟨rfl, c, hc, rfl⟩ := y
        have h9 : (Txt.removeprefix z ("-" : Str)).cps.size = (Txt.removeprefix z ("-" : Str)).length := rfl
        refine ⟨rfl, _, rfl, .inl ⟨c, _, rfl, rfl, _, p.2, ?_, ?_, ?_⟩⟩
        · rw [List.length_map, List.length_map, List.length_take, Array.length_toList]
          exact small1000 (by omega)
        · intro b o hb
          rw [upd_ne (ne_of_none hb hD)]
          exact p.1 _ _ hb
        · rw [upd_same, List.take_add_one, show (Txt.removeprefix z ("-" : Str)).cps.toList[i]? = some c by rw [Array.getElem?_toList]; exact hc, List.map_append, List.map_append]
          show some (HO.lst (_ ++ [V.bl (decide (c ∈ tens.cps.toList))])) = _
          rw [dig_tens]
          rfl
      · obtain ⟨p1, p2⟩ := p
        rw [List.take_of_length_le (by rw [Array.length_toList]; exact Nat.le_refl _), hb] at p2
        refine ⟨D, _, rfl, .inl (.inl p2), _, rfl, ite2 (fun e3 => ?_) (fun e3 => ?_)⟩
        · have h3 : (body z.cps.toList).all dig = false := by
            rw [List.all_map] at e3
            cases h4 : (body z.cps.toList).all dig with
            | false => rfl
            | true =>
              have h5 : (body z.cps.toList).all (id ∘ dig) = true := h4
              rw [h5] at e3
              exact absurd e3 (by decide)
          have := q H1 p1
          rw [good_all h3] at this
          exact this
        · have h3 : (body z.cps.toList).all dig = true := by
            rw [List.all_map] at e3
            cases h4 : (body z.cps.toList).all dig with
            | true => rfl
            | false =>
              have h5 : (body z.cps.toList).all (id ∘ dig) = false := h4
              rw [h5] at e3
              exact absurd rfl e3
          obtain ⟨c, r, hcr⟩ : ∃ c r, body z.cps.toList = c :: r := by
            cases hh : body z.cps.toList with
            | nil =>
              rw [hh] at hlen
              exact absurd hlen.1 (by decide)
            | cons c r => exact ⟨c, r, rfl⟩
          have hrest := good_rest hlen h3
          refine ⟨_, rfl, _, _, c, rfl, rfl, sz _ (by omega), ?_, rfl, _, rfl, ite2 (fun e4 => ?_) (fun e4 => ?_)⟩
          · exact atI_nat (j := 0) (by rw [hb, hcr]; rfl)
          · have h4 : c ≠ 48 := fun hc => by
              rw [hc] at e4
              exact absurd e4 (by decide)
            have := q H1 p1
            rw [hrest, head_is hcr, decide_eq_false h4] at this
            exact this
          · have h4 : c = 48 := by
              have e5 : (!decide (V.str ⟨#[c]⟩ = V.str ("0" : Str))) ≠ true := e4
              by_cases hc : c = 48
              · exact hc
              · exfalso
                refine e5 ?_
                rw [Bool.not_eq_true', decide_eq_false_iff_not]
                intro z
                have : (⟨#[c]⟩ : Str).cps.toList = ("0" : Str).cps.toList := by rw [V.str.inj z]
                exact hc (List.cons.inj this).1
            refine ⟨_, rfl, rfl, ?_⟩
            have := q H1 p1
            rw [hrest, head_is hcr, decide_eq_true h4, Bool.not_true, Bool.false_or] at this
            rw [str_inj]
            exact this
    · have h0 : ¬ ((1 : Int) ≤ (Txt.removeprefix z ("-" : Str)).length) := fun hh => e1 (decide_eq_true hh)
      have := q H (Same.refl H)
      rw [good_len (by omega)] at this
      exact this
end
end Pk

set_option Elab.async false
set_option linter.all false
set_option maxRecDepth 100000
set_option maxHeartbeats 4000000
namespace Pk
open PySem PySem.Spec PyProof.Rows L2 Pu Pz
abbrev s_law_digits : Stmt := topS 10
theorem sc_law_digits : FnScope ["_law_box_here", "_law_many", "_law_text", "_law_at", "_law_k"] ["_law_box_here"] (defScope s_law_digits) := ⟨rfl, rfl, rfl, by decide +kernel, rfl, by decide +kernel, by decide +kernel⟩
abbrev s_law_due : Stmt := topS 11
theorem sc_law_due : FnScope ["_law_text", "_law_floor", "_law_roof", "_law_digits_here", "_law_number", "_law_sign"] ["_law_text", "_law_floor", "_law_roof"] (defScope s_law_due) := ⟨rfl, rfl, rfl, by decide +kernel, rfl, by decide +kernel, by decide +kernel⟩
abbrev s_law_words : Stmt := topS 13
theorem sc_law_words : FnScope ["_law_text", "_law_found", "_law_sign"] ["_law_text"] (defScope s_law_words) := ⟨rfl, rfl, rfl, by decide +kernel, rfl, by decide +kernel, by decide +kernel⟩

/-- None or a number -/
def optV : Option Int → V
  | none => .non
  | some i => .int i
/-- a bound: None or a number -/
def atLeast (i : Int) : Option Int → Bool
  | none => true
  | some l => decide (l ≤ i)
def atMost (i : Int) : Option Int → Bool
  | none => true
  | some h => decide (i ≤ h)
def within (lo hi : Option Int) : Option Int → Option Int
  | none => none
  | some i => if atLeast i lo = true ∧ atMost i hi = true then some i else none
/-- what may be handed in where a text is asked: a text, or something of another kind -/
def Arg (K : PySem.W.Frag) (H : Hp) (x : V) (o : Option Int) : Prop := (∃ z : Str, x = .str z ∧ z.length ≤ 600 ∧ o = parse z.cps.toList ∧ Asc z) ∨ ∃ T : String, TyX K H x (.type T) ∧ T ∈ ["NoneType", "int", "bool", "list", "tuple", "dict"] ∧ o = none
theorem within_none {lo hi : Option Int} : within lo hi none = none := rfl
theorem parse_not {cs : List Nat} (h : decB cs = false) : parse cs = none := by
  unfold parse
  rw [if_neg (by rw [h]; decide)]
theorem parse_is {cs : List Nat} (h : decB cs = true) : parse cs = some (val cs) := if_pos h
theorem dec_good {cs : List Nat} (h : decB cs = true) : good cs = true := by
  unfold decB at h
  rw [Bool.and_eq_true] at h
  exact h.1
section
variable {P : Program} {w : World} {K : PySem.W.Frag} {mg : Str → Option Value} {base : Heap}
/-! ### parse_integer -/
def spParse (K : PySem.W.Frag) : Sp := fun vs H Q _ => ∃ (x : V) (o lo hi : Option Int), vs = [x, optV lo, optV hi] ∧ Arg K H x o ∧ ∀ H', Same H H' → Q (optV (within lo hi o)) H'
theorem ok_parse {f : Addr} {fd : FuncData} (F : FunD K "parse_integer" "parse_integer" (defArgs s_parse_integer) (defBody s_parse_integer) (defScope s_parse_integer) [] [("low", .non), ("high", .non)] f fd) (T : Txt mg) (cis_decimal : Cal P w K mg base 1 "is_decimal" spDecimal []) : FnOk P w K mg base CX0 2 f fd ["text", "low", "high"] (spParse K) := by
  have nd := sc_parse_integer.nd
  refine F.ok sc_parse_integer (fun vs H Q E h => ?_) (fun cdv A outer s H vs Q E hr h => ?_)
  · obtain ⟨_, _, _, _, rfl, _⟩ := h
    rfl
  · obtain ⟨x, o, lo, hi, rfl, ha, q⟩ := h
    refine ⟨_, (pss_cons (ps_if (PW.pt (pw_or (pt_not (pt_val (pe_callB (isiK K) (by rfl) T.m_isinstance PyProof.Rows.boot_isinstance (pa_cons (pv 0) (pa_cons (pe_bltn (v := .ty "str") rfl T.m_str PyProof.Rows.boot_str rfl) pa_nil))))) (pw_or1 (pt_not (pt_val (pe_c cis_decimal hr (by decide) rfl (pa_cons (pv 0) pa_nil)))))))
      (pss_one (ps_ret pe_non)) pss_nil)
      (pss_cons (ps_set (i := 3) nd rfl (Or.inl rfl) (pe_callTy call_int_str (by rfl) T.m_int PyProof.Rows.boot_int (pa_cons (pv 0) pa_nil)))
      (pss_cons (ps_if (PW.pt (pw_and (pt_cmpR op_notN (pv 1) pe_non (by rfl)) (pw_and1 (pt_cmpR op_lt (pv 3) (pv 1) (by rfl)))))
      (pss_one (ps_ret pe_non)) pss_nil)
      (pss_cons (ps_if (PW.pt (pw_and (pt_cmpR op_notN (pv 2) pe_non (by rfl)) (pw_and1 (pt_cmpR op_gt (pv 3) (pv 2) (by rfl)))))
      (pss_one (ps_ret pe_non)) pss_nil)
      (pss_one (ps_ret (pv 3))))))), ?_⟩
    rcases ha with ⟨z, rfl, hz, rfl, hA⟩ | ⟨t, hT, hk, rfl⟩
    · refine ⟨_, rfl, _, _, _, _, _, rfl, .ty _, .base (.str z), kity true (by decide) (by decide) rfl, _, rfl, _, rfl, z, rfl, by omega, fun H1 s1 => ⟨_, rfl, ite2 (fun e => ?_) (fun e => ?_)⟩⟩
      · have hd : decB z.cps.toList = false := by
          cases hh : decB z.cps.toList with
          | false => rfl
          | true =>
            rw [hh] at e
            exact absurd e (by decide)
        have := q H1 s1
        rw [parse_not hd] at this
        exact this
      · have hd : decB z.cps.toList = true := by
          cases hh : decB z.cps.toList with
          | true => rfl
          | false =>
            rw [hh] at e
            exact absurd rfl e
        have hq := q H1 s1
        rw [parse_is hd] at hq
        refine ⟨_, rfl, z, _, rfl, int_good (dec_good hd) (by omega), by omega, ?_⟩
        have low : ∀ R : Prop, (atLeast (val z.cps.toList) lo = false → Q .non H1) → True := fun _ _ => trivial
        refine ⟨_, rfl, rfl, _, rfl, ?_⟩
        cases lo with
        | none =>
          refine ⟨_, rfl, rfl, _, rfl, ?_⟩
          cases hi with
          | none => exact ⟨_, rfl, hq⟩
          | some h2 =>
            refine ⟨_, rfl, _, rfl, _, _, rfl, rfl, _, rfl, ite2 (fun e2 => ?_) (fun e2 => ?_)⟩
            · have h3 : ¬ (val z.cps.toList ≤ h2) := fun hh => by
                have := of_decide_eq_true e2
                omega
              have e9 : within none (some h2) (some (val z.cps.toList)) = none := if_neg fun hh => h3 (of_decide_eq_true hh.2)
              rw [e9] at hq
              exact hq
            · have h3 : val z.cps.toList ≤ h2 := by
                have : ¬ (h2 < val z.cps.toList) := fun hh => e2 (decide_eq_true hh)
                omega
              have e9 : within none (some h2) (some (val z.cps.toList)) = some (val z.cps.toList) := if_pos ⟨rfl, decide_eq_true h3⟩
              rw [e9] at hq
              exact ⟨_, rfl, hq⟩
        | some l2 =>
          refine ⟨_, rfl, _, rfl, _, _, rfl, rfl, _, rfl, ite2 (fun e1 => ?_) (fun e1 => ?_)⟩
          · have h3 : ¬ (l2 ≤ val z.cps.toList) := fun hh => by
              have := of_decide_eq_true e1
              omega
            have e9 : within (some l2) hi (some (val z.cps.toList)) = none := if_neg fun hh => h3 (of_decide_eq_true hh.1)
            rw [e9] at hq
            exact hq
          · have h3 : l2 ≤ val z.cps.toList := by
              have : ¬ (val z.cps.toList < l2) := fun hh => e1 (decide_eq_true hh)
              omega
            refine ⟨_, rfl, rfl, _, rfl, ?_⟩
            cases hi with
            | none =>
              have e9 : within (some l2) none (some (val z.cps.toList)) = some (val z.cps.toList) := if_pos ⟨decide_eq_true h3, rfl⟩
              rw [e9] at hq
              exact ⟨_, rfl, hq⟩
            | some h2 =>
              refine ⟨_, rfl, _, rfl, _, _, rfl, rfl, _, rfl, ite2 (fun e2 => ?_) (fun e2 => ?_)⟩
              · have h4 : ¬ (val z.cps.toList ≤ h2) := fun hh => by
                  have := of_decide_eq_true e2
                  omega
                have e9 : within (some l2) (some h2) (some (val z.cps.toList)) = none := if_neg fun hh => h4 (of_decide_eq_true hh.2)
                rw [e9] at hq
                exact hq
              · have h4 : val z.cps.toList ≤ h2 := by
                  have : ¬ (h2 < val z.cps.toList) := fun hh => e2 (decide_eq_true hh)
                  omega
                have e9 : within (some l2) (some h2) (some (val z.cps.toList)) = some (val z.cps.toList) := if_pos ⟨decide_eq_true h3, decide_eq_true h4⟩
                rw [e9] at hq
                exact ⟨_, rfl, hq⟩
    · have hk2 : t ∈ kinds ∧ isk t "str" = false := (show ∀ t ∈ ["NoneType", "int", "bool", "list", "tuple", "dict"], t ∈ kinds ∧ isk t "str" = false by decide) t hk
      exact ⟨_, rfl, _, _, _, _, _, rfl, .ty _, hT, kity false hk2.1 (by decide) hk2.2, _, rfl, q H (Same.refl H)⟩
/-! ### the law's own reading of an integer -/
theorem ok_due {f : Addr} {fd : FuncData} (F : Fun K "_law_due" "_law_due" s_law_due f fd) (T : Txt mg) : FnOk P w K mg base CX0 1 f fd ["_law_text", "_law_floor", "_law_roof"] (spParse K) := by
  have nd := sc_law_due.nd
  refine F.ok sc_law_due (fun vs H Q E h => ?_) (fun cdv A outer s H vs Q E hr h => ?_)
  · obtain ⟨_, _, _, _, rfl, _⟩ := h
    rfl
  · obtain ⟨x, o, lo, hi, rfl, ha, q⟩ := h
    refine ⟨_, (pss_cons (ps_if (pt_not (pt_val (pe_callB (isiK K) (by rfl) T.m_isinstance PyProof.Rows.boot_isinstance (pa_cons (pv 0) (pa_cons (pe_bltn (v := .ty "str") rfl T.m_str PyProof.Rows.boot_str rfl) pa_nil)))))
      (pss_one (ps_ret pe_non)) pss_nil)
      (pss_cut (ps_set (i := 3) nd rfl (Or.inl rfl) (pe_ifExp (pt_cmpR op_eq (pe_slice sl_str (pv 0) po_none (po_some pe_int)) pe_str (by rfl)) (pe_slice sl_str (pv 0) (po_some pe_int) po_none) (pv 0)))
      (pss_cons (ps_if (PW.pt (pw_or (pt_not (pt_chain op_le op_le pe_int (pe_callB (lenK K) (by rfl) T.m_len PySem.boot_len (pa_cons (pv 3) pa_nil)) pe_int)) (pw_or1 (pt_cmpR (neDK K hr) (pe_lc (own := [("_law_sign", 5)]) (g := gName 5) rfl nd (pi_str (pv 3)) (blkOk_by (N := ["_law_text", "_law_floor", "_law_roof", "_law_digits_here", "_law_number", "_law_sign"]) (sc := defScope s_law_due) (by decide +kernel)) (fun _ _ _ _ _ => pg_name (i := 5) nd rfl (Or.inl rfl)) (fun _ _ _ _ _ => pts_one (pt_cmpR (oNotIn K) (pv 5) pe_str (by rfl))) (fun _ _ _ _ _ => (pv 5))) (pe_lst pa_nil) (by rfl)))))
      (pss_one (ps_ret pe_non)) pss_nil)
      (pss_cons (ps_if (pt_cmpR op_ne (pe_callTy call_str_int (by rfl) T.m_str PyProof.Rows.boot_str (pa_cons (pe_callTy call_int_str (by rfl) T.m_int PyProof.Rows.boot_int (pa_cons (pv 0) pa_nil)) pa_nil)) (pv 0) (by rfl))
      (pss_one (ps_ret pe_non)) pss_nil)
      (pss_cons (ps_set (i := 4) nd rfl (Or.inl rfl) (pe_callTy call_int_str (by rfl) T.m_int PyProof.Rows.boot_int (pa_cons (pv 0) pa_nil)))
      (pss_one (ps_ret (pe_ifExp (PW.pt (pw_and (PW.pt (pw_or (pt_cmpR op_isN (pv 1) pe_non (by rfl)) (pw_or1 (pt_cmpR op_ge (pv 4) (pv 1) (by rfl))))) (pw_and1 (PW.pt (pw_or (pt_cmpR op_isN (pv 2) pe_non (by rfl)) (pw_or1 (pt_cmpR op_le (pv 4) (pv 2) (by rfl)))))))) (pv 4) pe_non)))))))), ?_⟩
    rcases ha with ⟨z, rfl, hz, rfl, hA⟩ | ⟨t, hT, hk, rfl⟩
    · refine ⟨_, rfl, _, _, _, _, _, rfl, .ty _, .base (.str z), kity true (by decide) (by decide) rfl, _, rfl, ?_⟩
      -- the digits
      have hb := cut_body z
      refine ⟨fun σ H' => H' = H ∧ ∃ y : Str, y.cps.toList = body z.cps.toList ∧ σ = [some (.str z), some (optV lo), some (optV hi), some (.str y), none, none], ?_, fun σ H' hM => ?_⟩
      · refine ⟨_, rfl, _, rfl, z, rfl, sz _ (by omega), rfl, _, rfl, ite2 (fun e => ?_) (fun e => ?_)⟩
        · have e1 : cutS z none (some 1) = ("-" : Str) := V.str.inj (of_decide_eq_true e)
          rw [if_pos e1] at hb
          exact ⟨_, rfl, _, rfl, z, rfl, sz _ (by omega), rfl, _, hb, rfl⟩
        · have e1 : ¬ cutS z none (some 1) = ("-" : Str) := fun hh => e (decide_eq_true (congrArg V.str hh))
          rw [if_neg e1] at hb
          exact ⟨_, rfl, rfl, _, hb, rfl⟩
      · obtain ⟨rfl, y, hy, rfl⟩ := hM
        have hly : y.length = (body z.cps.toList).length := by rw [← hy, length_cps]
        have hle : (body z.cps.toList).length ≤ z.length := by
          rw [← length_cps z]
          rcases minus_or z.cps.toList with ⟨r, e⟩ | hm
          · rw [e]
            show r.length ≤ r.length + 1
            omega
          · rw [body_other hm]
            exact Nat.le_refl _
        have hAy : Asc y := by
          intro c hc
          rw [hy] at hc
          rcases minus_or z.cps.toList with ⟨r, e⟩ | hm
          · rw [e] at hc
            exact hA c (by rw [e]; exact List.mem_cons_of_mem _ hc)
          · rw [body_other hm] at hc
            exact hA c hc
        have none_of : decB z.cps.toList = false → ∀ H1, Same H' H1 → Q .non H1 := fun hd H1 s1 => by
          have := q H1 s1
          rw [parse_not hd] at this
          exact this
        refine ⟨_, rfl, .inr ⟨y, rfl, sz _ (by omega), _, _, rfl, rfl, _, rfl, ite2 (fun e1 => ⟨_, _, rfl, rfl, _, rfl, ite2 (fun e2 => ?_) (fun e2 => ?_)⟩) (fun e1 => ⟨_, rfl, ?_⟩)⟩⟩
        · refine none_of (good_len fun hh => ?_) H' (Same.refl _)
          have h1 : ((y.length : Int) ≤ 30) := by omega
          rw [decide_eq_true h1] at e2
          exact absurd e2 (by decide)
        · have h1 : ((y.length : Int) ≤ 30) := by
            by_cases hh : ((y.length : Int) ≤ 30)
            · exact hh
            · rw [decide_eq_false hh] at e2
              exact absurd rfl e2
          have h0 : (1 : Int) ≤ y.length := of_decide_eq_true e1
          have hlen : 1 ≤ (body z.cps.toList).length ∧ (body z.cps.toList).length ≤ 30 := by omega
          refine ⟨_, rfl, y, rfl, fun D hD => lc_it walk_str (fun i H1 => Same H' H1 ∧ H1 D = some (.lst ((((y.cps.toList.take i).filter fun c => !dig c).map fun c => (⟨#[c]⟩ : Str)).map V.str))) ⟨same_upd hD, upd_same⟩ (fun _ _ _ _ => trivial) (fun i x H1 H2 hi p hx => ?_) (fun H1 p => ?_)⟩
          · obtain ⟨rfl, c, hc, rfl⟩ := hx
            have hg : y.cps.toList[i]? = some c := by
              rw [Array.getElem?_toList]
              exact hc
            have h9 : y.cps.size = y.length := rfl
            have hl : ((y.cps.toList.take i).filter fun c => !dig c).length ≤ i := by
              have h1 := List.length_filter_le (fun c => !dig c) (y.cps.toList.take i)
              rw [List.length_take] at h1
              omega
            have hdt := dig_tens c
            refine ⟨rfl, _, rfl, .inl ⟨c, _, rfl, rfl, _, rfl, ite2 (fun e => ?_) (fun e => ?_)⟩⟩
            · have e3 : (!dig c) = true := by
                rw [← hdt]
                exact e
              refine ⟨_, rfl, _, p.2, ?_, ?_, ?_⟩
              · rw [List.length_map, List.length_map]
                exact small1000 (by omega)
              · intro b o hbo
                rw [upd_ne (ne_of_none hbo hD)]
                exact p.1 _ _ hbo
              · rw [upd_same, List.take_add_one, hg, List.filter_append, List.map_append, List.map_append]
                show some (HO.lst (_ ++ [_])) = some (HO.lst (_ ++ List.map _ (List.map _ (List.filter _ [c]))))
                rw [List.filter_cons, if_pos e3]
                rfl
            · have e3 : ¬ (!dig c) = true := by
                rw [← hdt]
                exact e
              refine ⟨p.1, ?_⟩
              rw [List.take_add_one, hg, List.filter_append]
              show _ = some (HO.lst (List.map _ (List.map _ (_ ++ List.filter _ [c]))))
              rw [List.filter_cons, if_neg e3]
              show _ = some (HO.lst (List.map _ (List.map _ (_ ++ []))))
              rw [List.append_nil]
              exact p.2
          · obtain ⟨p1, p2⟩ := p
            rw [List.take_of_length_le (by rw [Array.length_toList]; exact Nat.le_refl _), hy] at p2
            have hAf : ∀ u ∈ ((body z.cps.toList).filter fun c => !dig c).map (fun c => (⟨#[c]⟩ : Str)), Asc u := by
              intro u hu
              obtain ⟨c, hc, rfl⟩ := List.mem_map.mp hu
              exact asc_one (hAy c (by rw [hy]; exact (List.mem_filter.mp hc).1))
            refine ⟨sz 0, fun p hp => ?_⟩
            have p3 : (upd H1 p (.lst [])) D = some (.lst ((((body z.cps.toList).filter fun c => !dig c).map fun c => (⟨#[c]⟩ : Str)).map V.str)) := by
              rw [upd_ne (ne_of_none p2 hp)]
              exact p2
            have s3 : Same H' (upd H1 p (.lst [])) := p1.trans (same_upd hp)
            refine ⟨_, _, .lst (.inl (.inl p3)) (dp_strs _), .lst (.inl (.inl upd_same)) .nil, shaped_strs _ hAf, rfl, _, rfl, ite2 (fun e3 => ?_) (fun e3 => ?_)⟩
            · refine none_of (good_all ?_) _ s3
              cases h4 : (body z.cps.toList).all dig with
              | false => rfl
              | true =>
                exfalso
                have h5 : ((body z.cps.toList).filter fun c => !dig c) = [] := by
                  rw [List.filter_eq_nil_iff]
                  intro c hc
                  rw [List.all_eq_true.mp h4 c hc]
                  decide
                rw [h5] at e3
                exact absurd e3 (by decide)
            · have h3 : (body z.cps.toList).all dig = true := by
                cases h4 : ((body z.cps.toList).filter fun c => !dig c) with
                | nil =>
                  rw [List.all_eq_true]
                  intro c hc
                  have := (List.filter_eq_nil_iff.mp h4) c hc
                  cases h6 : dig c with
                  | true => rfl
                  | false =>
                    rw [h6] at this
                    exact absurd rfl this
                | cons a r =>
                  rw [h4] at e3
                  exact absurd rfl e3
              have hgood : good z.cps.toList = true := by
                unfold good
                rw [decide_eq_true hlen, h3]
                rfl
              have hv := val_small hgood
              have hv2 : (val z.cps.toList).natAbs < 10 ^ 40 := Nat.lt_trans hv (by decide)
              have hint := int_good hgood (by omega)
              refine ⟨_, rfl, z, _, rfl, hint, by omega, _, rfl, log_small hv2, _, rfl, rfl, _, rfl, ite2 (fun e4 => ?_) (fun e4 => ?_)⟩
              · refine none_of ?_ _ s3
                cases hd : decB z.cps.toList with
                | false => rfl
                | true =>
                  exfalso
                  have h5 := (canon hgood).mp hd
                  have h6 : V.str (toString (val z.cps.toList) : String) = V.str z := congrArg V.str (str_ext h5)
                  rw [decide_eq_true h6] at e4
                  exact absurd e4 (by decide)
              · have hd : decB z.cps.toList = true := by
                  refine (canon hgood).mpr ?_
                  by_cases h6 : V.str (toString (val z.cps.toList) : String) = V.str z
                  · have h7 := V.str.inj h6
                    unfold txt
                    rw [h7]
                  · rw [decide_eq_false h6] at e4
                    exact absurd rfl e4
                have hq := q _ s3
                rw [parse_is hd] at hq
                refine ⟨_, rfl, z, _, rfl, hint, by omega, ?_⟩
                cases lo with
                | none =>
                  refine ⟨_, rfl, rfl, _, rfl, _, rfl, rfl, _, rfl, ?_⟩
                  cases hi with
                  | none => exact ⟨_, rfl, hq⟩
                  | some h2 =>
                    refine ⟨_, rfl, _, rfl, _, _, rfl, rfl, _, rfl, ite2 (fun e5 => ?_) (fun e5 => ?_)⟩
                    · have e9 : within none (some h2) (some (val z.cps.toList)) = some (val z.cps.toList) := if_pos ⟨rfl, e5⟩
                      rw [e9] at hq
                      exact ⟨_, rfl, hq⟩
                    · have e9 : within none (some h2) (some (val z.cps.toList)) = none := if_neg fun hh => e5 hh.2
                      rw [e9] at hq
                      exact hq
                | some l2 =>
                  refine ⟨_, rfl, rfl, _, rfl, _, rfl, _, rfl, _, _, rfl, rfl, _, rfl, ite2 (fun e6 => ?_) (fun e6 => ?_)⟩
                  · refine ⟨_, rfl, rfl, _, rfl, ?_⟩
                    cases hi with
                    | none =>
                      have e9 : within (some l2) none (some (val z.cps.toList)) = some (val z.cps.toList) := if_pos ⟨e6, rfl⟩
                      rw [e9] at hq
                      exact ⟨_, rfl, hq⟩
                    | some h2 =>
                      refine ⟨_, rfl, _, rfl, _, _, rfl, rfl, _, rfl, ite2 (fun e5 => ?_) (fun e5 => ?_)⟩
                      · have e9 : within (some l2) (some h2) (some (val z.cps.toList)) = some (val z.cps.toList) := if_pos ⟨e6, e5⟩
                        rw [e9] at hq
                        exact ⟨_, rfl, hq⟩
                      · have e9 : within (some l2) (some h2) (some (val z.cps.toList)) = none := if_neg fun hh => e5 hh.2
                        rw [e9] at hq
                        exact hq
                  · have e9 : within (some l2) hi (some (val z.cps.toList)) = none := if_neg fun hh => e6 hh.1
                    rw [e9] at hq
                    exact hq
        · refine none_of (good_len fun hh => ?_) H' (Same.refl _)
          have h1 : (1 : Int) ≤ y.length := by omega
          exact e1 (decide_eq_true h1)
    · have hk2 : t ∈ kinds ∧ isk t "str" = false := (show ∀ t ∈ ["NoneType", "int", "bool", "list", "tuple", "dict"], t ∈ kinds ∧ isk t "str" = false by decide) t hk
      exact ⟨_, rfl, _, _, _, _, _, rfl, .ty _, hT, kity false hk2.1 (by decide) hk2.2, _, rfl, q H (Same.refl H)⟩
end
end Pk

set_option Elab.async false
set_option linter.all false
set_option maxRecDepth 100000
set_option maxHeartbeats 4000000
namespace Pk
open PySem PySem.Spec PyProof.Rows L2 Pu Pz
abbrev s_law_line : Stmt := topS 12
theorem sc_law_line : FnScope ["_law_box_here", "_law_signs", "_law_words_here", "_law_k", "_law_text", "_law_at", "_law_j"] ["_law_box_here"] (defScope s_law_line) := ⟨rfl, rfl, rfl, by decide +kernel, rfl, by decide +kernel, by decide +kernel⟩

def S (l : List Nat) : Str := ⟨l.toArray⟩
theorem S_cps (l : List Nat) : (S l).cps.toList = l := rfl
def wordsOf (z : Str) : Option (List Str) := if [] ∈ wf z.cps.toList then none else some ((wf z.cps.toList).map S)
theorem split_S (z : Str) : Txt.split z (" " : Str) = (wf z.cps.toList).map S := by
  rw [← split_wf, List.map_map]
  exact ((List.map_congr_left fun y _ => (str_ext rfl : y = (S ∘ fun x : Str => x.cps.toList) y)).symm.trans (List.map_id _)).symm
theorem in_empty (ls : List (List Nat)) : inV (.str ("" : Str)) ((ls.map S).map V.str) = decide ([] ∈ ls) := by
  induction ls with
  | nil => rfl
  | cons l r ih =>
    show (eqV (.str (S l)) (.str ("" : Str)) || inV (.str ("" : Str)) ((r.map S).map V.str)) = _
    rw [ih, Bool.eq_iff_iff, Bool.or_eq_true, decide_eq_true_iff, decide_eq_true_iff, List.mem_cons]
    have e : eqV (.str (S l)) (.str ("" : Str)) = true ↔ [] = l := by
      show (S l == ("" : Str)) = true ↔ _
      rw [beq_iff_eq]
      constructor
      · intro h
        have : (S l).cps.toList = ("" : Str).cps.toList := by rw [h]
        exact this.symm
      · intro h
        rw [← h]
        rfl
    rw [e]
theorem flat_strs (ys : List Str) : (ys.map V.str).all flatV = true := by
  rw [List.all_eq_true]
  intro v hv
  obtain ⟨y, _, rfl⟩ := List.mem_map.mp hv
  rfl
theorem snoc_len {α : Type} (xs : List α) (a : α) : (xs ++ [a]).length = xs.length + 1 := by rw [List.length_append]; rfl
theorem snoc_sum (xs : List (List Nat)) (a : List Nat) : ((xs ++ [a]).map (·.length)).sum = (xs.map (·.length)).sum + a.length := by
  rw [List.map_append, List.sum_append]
  rfl
theorem S_snoc (a : List Nat) (c : Nat) : S a ++ (⟨#[c]⟩ : Str) = S (a ++ [c]) := str_ext (by
  have e : (S a ++ (⟨#[c]⟩ : Str)).cps.toList = (S a).cps.toList ++ [c] := Array.toList_append
  rw [e]
  rfl)
/-- how the fold goes: what it has made is never empty, and no longer than what it has read -/
theorem fold_snoc : ∀ (cs : List Nat) (pre : List (List Nat)) (a : List Nat), ∃ pre' a', cs.foldl step (pre ++ [a]) = pre' ++ [a'] ∧ (pre' ++ [a']).length ≤ (pre ++ [a]).length + cs.length ∧ ((pre' ++ [a']).map (·.length)).sum ≤ ((pre ++ [a]).map (·.length)).sum + cs.length ∧ ∀ u ∈ pre' ++ [a'], ∀ c ∈ u, c ∈ cs ∨ ∃ v ∈ pre ++ [a], c ∈ v := by
  intro cs
  induction cs with
  | nil =>
    intro pre a
    exact ⟨pre, a, rfl, Nat.le_refl _, Nat.le_refl _, fun u hu c hc => .inr ⟨u, hu, hc⟩⟩
  | cons c r ih =>
    intro pre a
    rw [List.foldl_cons]
    by_cases h : c = 32
    · subst h
      have e : step (pre ++ [a]) 32 = (pre ++ [a]) ++ [[]] := if_pos rfl
      obtain ⟨p', a', e1, e2, e3, e4⟩ := ih (pre ++ [a]) []
      simp only [snoc_len, snoc_sum, List.length_nil] at e2 e3
      refine ⟨p', a', by rw [e]; exact e1, by simp only [snoc_len, List.length_cons]; omega, by simp only [snoc_sum, List.length_cons]; omega, ?_⟩
      · intro u hu d hd
        rcases e4 u hu d hd with h | ⟨v, hv, h⟩
        · exact .inl (List.mem_cons_of_mem _ h)
        · rcases List.mem_append.mp hv with hv | hv
          · exact .inr ⟨v, hv, h⟩
          · rw [List.mem_singleton.mp hv] at h
            cases h
    · rw [step_last _ _ _ h]
      obtain ⟨p', a', e1, e2, e3, e4⟩ := ih pre (a ++ [c])
      simp only [snoc_len, snoc_sum] at e2 e3
      refine ⟨p', a', e1, by simp only [snoc_len, List.length_cons]; omega, by simp only [snoc_sum, List.length_cons]; omega, ?_⟩
      · intro u hu d hd
        rcases e4 u hu d hd with h | ⟨v, hv, h⟩
        · exact .inl (List.mem_cons_of_mem _ h)
        · rcases List.mem_append.mp hv with hv | hv
          · exact .inr ⟨v, List.mem_append_left _ hv, h⟩
          · rw [List.mem_singleton.mp hv] at h
            rcases List.mem_append.mp h with h | h
            · exact .inr ⟨a, List.mem_append_right _ (List.mem_cons_self ..), h⟩
            · rw [List.mem_singleton.mp h]
              exact .inl (List.mem_cons_self ..)
/-- what is asked of a text's words; x: a text or something else -/
def ArgW (K : PySem.W.Frag) (H : Hp) (x : V) (o : Option (List Str)) : Prop := (∃ z : Str, x = .str z ∧ z.length ≤ 600 ∧ o = wordsOf z ∧ Asc z) ∨ ∃ T : String, TyX K H x (.type T) ∧ T ∈ ["NoneType", "int", "bool", "list", "tuple", "dict"] ∧ o = none
def giveW (H : Hp) (Q : VK) : Option (List Str) → Prop
  | none => ∀ H', Same H H' → Q .non H'
  | some ys => ∀ p H', H p = none → Same H H' → H' p = some (.lst (ys.map V.str)) → Q (.ref p) H'
theorem words_ok {z : Str} {ys : List Str} (hz : z.length ≤ 600) (hA : Asc z) (h : wordsOf z = some ys) : (∀ y ∈ ys, Asc y) ∧ (ys.map (·.length)).sum ≤ 600 ∧ ys.length ≤ 601 := by
  unfold wordsOf at h
  split at h
  · cases h
  · obtain ⟨p', a', e1, e2, e3, e4⟩ := fold_snoc z.cps.toList [] []
    have ew : wf z.cps.toList = p' ++ [a'] := e1
    have hy : ys = (p' ++ [a']).map S := by
      rw [← ew]
      exact (Option.some.inj h).symm
    subst hy
    rw [length_cps] at e2 e3
    refine ⟨fun y hy c hc => ?_, ?_, ?_⟩
    · obtain ⟨u, hu, rfl⟩ := List.mem_map.mp hy
      rcases e4 u hu c hc with h | ⟨v, hv, h⟩
      · exact hA c h
      · rw [List.mem_singleton.mp hv] at h
        cases h
    · rw [List.map_map]
      have : ((p' ++ [a']).map ((·.length) ∘ S)).sum ≤ 0 + z.length := e3
      omega
    · rw [List.length_map]
      have : (p' ++ [a']).length ≤ 1 + z.length := e2
      omega
section
variable {P : Program} {w : World} {K : PySem.W.Frag} {mg : Str → Option Value} {base : Heap}
def spWords (K : PySem.W.Frag) : Sp := fun vs H Q _ => ∃ (x : V) (o : Option (List Str)), vs = [x] ∧ ArgW K H x o ∧ giveW H Q o
theorem ok_split {f : Addr} {fd : FuncData} (F : Fun K "split_words" "split_words" s_split_words f fd) (T : Txt mg) : FnOk P w K mg base CX0 1 f fd ["text"] (spWords K) := by
  have nd := sc_split_words.nd
  refine F.ok sc_split_words (fun vs H Q E h => ?_) (fun cdv A outer s H vs Q E hr h => ?_)
  · obtain ⟨_, _, rfl, _⟩ := h
    rfl
  · obtain ⟨x, o, rfl, ha, q⟩ := h
    refine ⟨_, (pss_cons (ps_if (pt_not (pt_val (pe_callB (isiK K) (by rfl) T.m_isinstance PyProof.Rows.boot_isinstance (pa_cons (pv 0) (pa_cons (pe_bltn (v := .ty "str") rfl T.m_str PyProof.Rows.boot_str rfl) pa_nil)))))
      (pss_one (ps_ret pe_non)) pss_nil)
      (pss_cons (ps_set (i := 1) nd rfl (Or.inl rfl) (pe_split (pv 0) pe_str))
      (pss_cons (ps_if (pt_cmpR (oIn K) pe_str (pv 1) (by rfl))
      (pss_one (ps_ret pe_non)) pss_nil)
      (pss_one (ps_ret (pv 1)))))), ?_⟩
    rcases ha with ⟨z, rfl, hz, rfl, hA⟩ | ⟨t, hT, hk, rfl⟩
    · refine ⟨_, rfl, _, _, _, _, _, rfl, .ty _, .base (.str z), kity true (by decide) (by decide) rfl, _, rfl, _, rfl, ⟨z, rfl⟩, z, _, rfl, rfl, rfl, sz _ (by omega), fun p hp => ?_⟩
      rw [split_S]
      refine ⟨_, rfl, .inr ⟨p, _, rfl, .inl (.inl (.inl upd_same)), rfl, flat_strs _, _, rfl, ite2 (fun e => ?_) (fun e => ?_)⟩⟩
      · have e1 : [] ∈ wf z.cps.toList := by
          have e2 : inV (.str ("" : Str)) (((wf z.cps.toList).map S).map V.str) = true := e
          rw [in_empty] at e2
          exact of_decide_eq_true e2
        have hq : giveW H Q none := by
          have h := q
          unfold wordsOf at h
          rw [if_pos e1] at h
          exact h
        exact hq _ (same_upd hp)
      · have e1 : ¬ [] ∈ wf z.cps.toList := fun hh => e (by
          show inV (.str ("" : Str)) (((wf z.cps.toList).map S).map V.str) = true
          rw [in_empty]
          exact decide_eq_true hh)
        have hq : giveW H Q (some ((wf z.cps.toList).map S)) := by
          have h := q
          unfold wordsOf at h
          rw [if_neg e1] at h
          exact h
        exact ⟨_, rfl, hq p _ hp (same_upd hp) upd_same⟩
    · have hk2 : t ∈ kinds ∧ isk t "str" = false := (show ∀ t ∈ ["NoneType", "int", "bool", "list", "tuple", "dict"], t ∈ kinds ∧ isk t "str" = false by decide) t hk
      exact ⟨_, rfl, _, _, _, _, _, rfl, .ty _, hT, kity false hk2.1 (by decide) hk2.2, _, rfl, q H (Same.refl H)⟩
theorem ok_words {f : Addr} {fd : FuncData} (F : Fun K "_law_words" "_law_words" s_law_words f fd) (T : Txt mg) : FnOk P w K mg base CX0 1 f fd ["_law_text"] (spWords K) := by
  have nd := sc_law_words.nd
  refine F.ok sc_law_words (fun vs H Q E h => ?_) (fun cdv A outer s H vs Q E hr h => ?_)
  · obtain ⟨_, _, rfl, _⟩ := h
    rfl
  · obtain ⟨x, o, rfl, ha, q⟩ := h
    refine ⟨_, (pss_cons (ps_if (pt_not (pt_val (pe_callB (isiK K) (by rfl) T.m_isinstance PyProof.Rows.boot_isinstance (pa_cons (pv 0) (pa_cons (pe_bltn (v := .ty "str") rfl T.m_str PyProof.Rows.boot_str rfl) pa_nil)))))
      (pss_one (ps_ret pe_non)) pss_nil)
      (pss_cons (ps_set (i := 1) nd rfl (Or.inl rfl) (pe_lst (pa_cons pe_str pa_nil)))
      (pss_cons (ps_for PassesOwn.never rfl (pi_str (pv 0)) (pg_name (i := 2) nd rfl (Or.inl rfl))
      (pss_one (ps_if (pt_cmpR op_eq (pv 2) pe_str (by rfl))
      (pss_one (ps_expr (pe_bm PySem.F.plainAttrs_list PySem.F.slot_list_append PySem.F.type_list_append mt_append (pv 1) (pa_cons pe_str pa_nil)))) (pss_one (ps_asg (pe_op oAdd (pe_ix (ixL K) (pv 1) (pe_un un_neg pe_int) (fun _ _ => rfl)) (pv 2)) (pg_sub (pv 1) (pe_un un_neg pe_int) set_list))))))
      (pss_one (ps_ret (pe_ifExp (pt_cmpR (oIn K) pe_str (pv 1) (by rfl)) pe_non (pv 1))))))), ?_⟩
    rcases ha with ⟨z, rfl, hz, rfl, hA⟩ | ⟨t, hT, hk, rfl⟩
    · refine ⟨_, rfl, _, _, _, _, _, rfl, .ty _, .base (.str z), kity true (by decide) (by decide) rfl, _, rfl, sz 1, fun p hp => ?_⟩
      refine ⟨_, rfl, z, rfl, for_it walk_str (fun i σ H' => Same H H' ∧ H' p = some (.lst ((((z.cps.toList.take i).foldl step [[]]).map S).map V.str)) ∧ ∃ v2, σ = [some (.str z), some (.ref p), v2]) ⟨same_upd hp, upd_same, _, rfl⟩ (fun _ _ _ _ _ => trivial) (fun i x σ H1 H2 hi h y => ?_) (fun σ H1 h => ?_)⟩
      · obtain ⟨rfl, c, hc, rfl⟩ := y
        obtain ⟨s1, hp1, v2, rfl⟩ := h
        have hg : z.cps.toList[i]? = some c := by
          rw [Array.getElem?_toList]
          exact hc
        have hi2 : i < z.length := hi
        have ext : ∀ o, Same H (upd H2 p o) := fun o b u hb => by
          rw [upd_ne (ne_of_none hb hp)]
          exact s1 _ _ hb
        obtain ⟨pre, a, e1, e2, e3, _⟩ := fold_snoc (z.cps.toList.take i) [] []
        have e1 : (z.cps.toList.take i).foldl step [[]] = pre ++ [a] := e1
        have hlt : (z.cps.toList.take i).length ≤ i := by
          rw [List.length_take]
          omega
        have e2 : (pre ++ [a]).length ≤ 1 + (z.cps.toList.take i).length := e2
        have e3 : ((pre ++ [a]).map (·.length)).sum ≤ 0 + (z.cps.toList.take i).length := e3
        have hstep : (z.cps.toList.take (i + 1)).foldl step [[]] = step (pre ++ [a]) c := by
          rw [List.take_add_one, hg, List.foldl_append, e1]
          rfl
        rw [e1] at hp1
        refine ⟨_, rfl, rfl, _, rfl, ite2 (fun e => ?_) (fun e => ?_)⟩
        · have hc32 : c = 32 := by
            have h1 := V.str.inj (of_decide_eq_true e)
            have h2 : (⟨#[c]⟩ : Str).cps.toList = (" " : Str).cps.toList := by rw [h1]
            exact (List.cons.inj h2).1
          refine ⟨_, rfl, .inl ⟨rfl, _, .inl (.inl hp1)⟩, p, _, _, rfl, rfl, hp1, ?_, ext _, ?_, _, rfl⟩
          · rw [List.length_map, List.length_map]
            exact small1000 (by omega)
          · rw [upd_same, hstep, hc32, show step (pre ++ [a]) 32 = (pre ++ [a]) ++ [[]] from if_pos rfl]
            have e7 : ((pre ++ [a] ++ [[]]).map S).map V.str = ((pre ++ [a]).map S).map V.str ++ [V.str ("" : Str)] := by
              rw [List.map_append (l₁ := pre ++ [a]), List.map_append]
              rfl
            rw [e7]
        · have hc32 : c ≠ 32 := fun hh => e (by
            rw [hh]
            exact decide_eq_true rfl)
          have hal : a.length ≤ 600 := by
            rw [snoc_sum] at e3
            omega
          have hmap : ((pre ++ [a]).map S).map V.str = (pre.map S).map V.str ++ [V.str (S a)] := by
            rw [List.map_append, List.map_append]
            rfl
          rw [hmap] at hp1
          refine ⟨_, rfl, _, rfl, p, _, _, _, rfl, rfl, .inl (.inl hp1), atI_last _ _, _, rfl, .inr (.inl ⟨_, _, rfl, rfl, ?_, ?_⟩)⟩
          · show a.length + 1 ≤ sizeLine
            exact sz _ (by omega)
          · refine ⟨_, rfl, _, rfl, p, _, _, ((pre.map S).map V.str).length, rfl, rfl, hp1, ?_, ext _, ?_, _, rfl⟩
            · rw [List.length_append]
              show (if (0 : Int) ≤ -1 then _ else if -((((pre.map S).map V.str).length + 1 : Nat) : Int) ≤ -1 then some (-1 + ((((pre.map S).map V.str).length + 1 : Nat) : Int)).toNat else none) = _
              rw [if_neg (by decide), if_pos (by omega)]
              congr 1
              omega
            · rw [upd_same, hstep, step_last _ _ _ hc32, List.set_append_right _ _ (Nat.le_refl _), Nat.sub_self, List.map_append, List.map_append]
              show some (HO.lst (_ ++ [V.str (S a ++ (⟨#[c]⟩ : Str))])) = _
              rw [S_snoc]
              rfl
      · obtain ⟨s1, hp1, v2, rfl⟩ := h
        rw [List.take_of_length_le (by rw [Array.length_toList]; exact Nat.le_refl _)] at hp1
        have hp1 : H1 p = some (.lst (((wf z.cps.toList).map S).map V.str)) := hp1
        refine ⟨_, rfl, .inr ⟨p, _, rfl, .inl (.inl (.inl hp1)), rfl, flat_strs _, _, rfl, ite2 (fun e => ?_) (fun e => ?_)⟩⟩
        · have e1 : [] ∈ wf z.cps.toList := by
            have e2 : inV (.str ("" : Str)) (((wf z.cps.toList).map S).map V.str) = true := e
            rw [in_empty] at e2
            exact of_decide_eq_true e2
          have hq : giveW H Q none := by
            have h := q
            unfold wordsOf at h
            rw [if_pos e1] at h
            exact h
          exact hq _ s1
        · have e1 : ¬ [] ∈ wf z.cps.toList := fun hh => e (by
            show inV (.str ("" : Str)) (((wf z.cps.toList).map S).map V.str) = true
            rw [in_empty]
            exact decide_eq_true hh)
          have hq : giveW H Q (some ((wf z.cps.toList).map S)) := by
            have h := q
            unfold wordsOf at h
            rw [if_neg e1] at h
            exact h
          exact ⟨_, rfl, hq p _ hp s1 hp1⟩
    · have hk2 : t ∈ kinds ∧ isk t "str" = false := (show ∀ t ∈ ["NoneType", "int", "bool", "list", "tuple", "dict"], t ∈ kinds ∧ isk t "str" = false by decide) t hk
      exact ⟨_, rfl, _, _, _, _, _, rfl, .ty _, hT, kity false hk2.1 (by decide) hk2.2, _, rfl, q H (Same.refl H)⟩
end
end Pk

set_option Elab.async false
set_option linter.all false
set_option maxRecDepth 100000
set_option maxHeartbeats 4000000
namespace Pk
open PySem PySem.Spec PyProof.Rows L2 Pu Pz
/-- a text that is drawn -/
def spStr : Sp := fun vs H Q _ => ∃ (b : Addr) (n : Int), vs = [.ref b] ∧ n ≤ 900000 ∧ Box H b n ∧ ∀ (s : Str) H', s.length ≤ 200 → Asc s → Box H' b (n + 60) → Ext b H H' → Q (.str s) H'
theorem at_lt {cs : List Nat} {i : Int} (h : cs.all (fun c => decide (c < 128)) = true) (h0 : 0 ≤ i) (h1 : i < cs.length) : ∃ c, atI cs i = some c ∧ c < 128 := by
  obtain ⟨c, hc, hm⟩ := pickN h0 h1
  exact ⟨c, hc, of_decide_eq_true (List.all_eq_true.mp h c hm)⟩
theorem pick_str {ys : List Str} {i : Int} {m : Nat} (ha : ∀ y ∈ ys, Asc y ∧ y.length ≤ m) (h0 : 0 ≤ i) (h1 : i < ys.length) : ∃ y, atI (ys.map V.str) i = some (.str y) ∧ Asc y ∧ y.length ≤ m := by
  obtain ⟨v, hv, hm⟩ := pickN (xs := ys.map V.str) h0 (by rw [List.length_map]; exact h1)
  obtain ⟨y, hy, rfl⟩ := List.mem_map.mp hm
  exact ⟨y, hv, ha y hy⟩
theorem fresh_of {b D : Addr} {H H' : Hp} (e : Ext b H H') (hb : D ≠ b) (h : H' D = none) : H D = none := by
  cases hh : H D with
  | none => rfl
  | some o =>
    have := e D o hb hh
    rw [h] at this
    cases this
section
variable {P : Program} {w : World} {K : PySem.W.Frag} {mg : Str → Option Value} {base : Heap}
theorem ok_digits {f : Addr} {fd : FuncData} (F : Fun K "_law_digits" "_law_digits" s_law_digits f fd) (T : Txt mg) (claw_take : Cal P w K mg base 1 "_law_take" spTake []) : FnOk P w K mg base CX0 2 f fd ["_law_box_here"] spStr := by
  have nd := sc_law_digits.nd
  refine F.ok sc_law_digits (fun vs H Q E h => ?_) (fun cdv A outer s H vs Q E hr h => ?_)
  · obtain ⟨_, _, rfl, _⟩ := h
    rfl
  · obtain ⟨b, n, rfl, hn, hB, q⟩ := h
    refine ⟨_, (pss_cons (ps_set (i := 1) nd rfl (Or.inl rfl) (pe_ix (ixL K) (pe_lst (pa_cons pe_int (pa_cons pe_int (pa_cons pe_int (pa_cons pe_int (pa_cons pe_int (pa_cons pe_int (pa_cons pe_int pa_nil)))))))) (pe_c claw_take hr (by decide) rfl (pa_cons (pv 0) (pa_cons pe_int pa_nil))) (fun _ _ => rfl)))
      (pss_cons (ps_set (i := 2) nd rfl (Or.inl rfl) (pe_join pe_str (pe_lc (own := [("_law_k", 4)]) (g := gName 4) (tt := tYes) rfl nd (pi_range1 rfl T.m_range (pa_cons (pv 1) pa_nil)) (blkOk_by (N := ["_law_box_here", "_law_many", "_law_text", "_law_at", "_law_k"]) (sc := defScope s_law_digits) (by decide +kernel)) (fun _ _ _ _ _ => pg_name (i := 4) nd rfl (Or.inl rfl)) (fun _ _ _ _ _ => pts_nil) (fun _ _ _ _ _ => (pe_ix ix_str pe_str (pe_c claw_take hr (by decide) rfl (pa_cons (pv 0) (pa_cons pe_int pa_nil))) (fun _ _ => rfl))))))
      (pss_cons (ps_set (i := 2) nd rfl (Or.inl rfl) (pe_op oAdd (pe_ix (ixL K) (pe_lst (pa_cons pe_str (pa_cons pe_str (pa_cons pe_str (pa_cons pe_str (pa_cons pe_str (pa_cons pe_str pa_nil))))))) (pe_c claw_take hr (by decide) rfl (pa_cons (pv 0) (pa_cons pe_int pa_nil))) (fun _ _ => rfl)) (pv 2)))
      (pss_cons (ps_if (pt_cmpR op_eq (pe_c claw_take hr (by decide) rfl (pa_cons (pv 0) (pa_cons pe_int pa_nil))) pe_int (by rfl))
      (pss_cons (ps_set (i := 3) nd rfl (Or.inl rfl) (pe_c claw_take hr (by decide) rfl (pa_cons (pv 0) (pa_cons (pe_op oAdd (pe_callB (lenK K) (by rfl) T.m_len PySem.boot_len (pa_cons (pv 2) pa_nil)) pe_int) pa_nil))))
      (pss_one (ps_set (i := 2) nd rfl (Or.inl rfl) (pe_op oAdd (pe_op oAdd (pe_slice sl_str (pv 2) po_none (po_some (pv 3))) (pe_ix (ixL K) (pe_lst (pa_cons pe_str (pa_cons pe_str (pa_cons pe_str (pa_cons pe_str (pa_cons pe_str (pa_cons pe_str (pa_cons pe_str pa_nil)))))))) (pe_c claw_take hr (by decide) rfl (pa_cons (pv 0) (pa_cons pe_int pa_nil))) (fun _ _ => rfl))) (pe_slice sl_str (pv 2) (po_some (pv 3)) po_none))))) pss_nil)
      (pss_one (ps_ret (pv 2))))))), ?_⟩
    refine ⟨sz 7, fun p hp => ⟨_, rfl, b, 7, n, rfl, by decide, by decide, by omega, hB.new hp, fun d2 H2 c1 c2 B2 e2 => ?_⟩⟩
    have hbp : b ≠ p := hB.ne hp
    have hP : H2 p = some (.lst ([1, 1, 2, 3, 29, 30, 31].map V.int)) := e2 _ _ hbp.symm upd_same
    have E2 : Ext b H H2 := (Ext.new hp).trans e2
    obtain ⟨v, hv, hm⟩ := pickN (xs := [1, 1, 2, 3, 29, 30, 31].map V.int) c1 (by show d2 < 7; exact c2)
    obtain ⟨m, rfl, hm0, hm1⟩ : ∃ m : Int, v = .int m ∧ 1 ≤ m ∧ m ≤ 31 := by
      obtain ⟨m9, hm9, rfl⟩ := List.mem_map.mp hm
      exact ⟨m9, rfl, (show ∀ m ∈ ([1, 1, 2, 3, 29, 30, 31] : List Int), 1 ≤ m ∧ m ≤ 31 by decide) m9 hm9⟩
    refine ⟨p, _, _, _, rfl, rfl, .inl (.inl hP), hv, ?_⟩
    refine ⟨⟨_, rfl⟩, _, rfl, m, rfl, by omega, by omega, fun D hD => lc_range (fun i H' => Box H' b (n + 1 + i) ∧ Ext b H H' ∧ ∃ ys : List Str, ys.length = i ∧ (∀ y ∈ ys, Asc y ∧ y.length ≤ 1) ∧ H' D = some (.lst (ys.map V.str))) ?_ (fun i H' hi p' => ?_) (fun H3 p' => ?_)⟩
    · exact ⟨(B2.new hD).mono (by omega), E2.trans (Ext.new hD), [], rfl, (fun _ h => nomatch h), upd_same⟩
    · obtain ⟨B3, e3, ys, hl, h1, hD3⟩ := p'
      refine ⟨rfl, _, rfl, b, 10, _, rfl, by decide, by decide, by omega, B3, fun d H4 f1 f2 B4 e4 => ?_⟩
      have hbD : b ≠ D := B2.ne hD
      obtain ⟨c, hc, hc2⟩ := at_lt (cs := ("0123456789" : Str).cps.toList) (by decide +kernel) f1 (by rw [show (("0123456789" : Str).cps.toList.length : Int) = 10 by decide +kernel]; exact f2)
      refine ⟨_, _, c, rfl, rfl, by decide +kernel, hc, ys.map V.str, e4 _ _ hbD.symm hD3, ?_, ?_⟩
      · rw [List.length_map]
        exact small1000 (by omega)
      · refine ⟨(B4.upd hbD).mono (by omega), (e3.trans e4).mut (fresh_of E2 hbD.symm hD), ys ++ [⟨#[c]⟩], by simp [hl], fun y hy => ?_, ?_⟩
        · rcases List.mem_append.mp hy with hy | hy
          · exact h1 y hy
          · rw [List.mem_singleton.mp hy]
            exact ⟨asc_one hc2, Nat.le_refl _⟩
        · rw [upd_same, List.map_append]
          rfl
    · obtain ⟨B3, e3, ys, hl, h1, hD3⟩ := p'
      have hsum := sum_le_of (m := 1) fun y hy => (h1 y hy).2
      have hln := len_join ("" : Str) ys
      have hz0 : ("" : Str).length = 0 := rfl
      rw [hz0] at hln
      have hAj := asc_join asc_nil fun y hy => (h1 y hy).1
      refine ⟨_, D, ys, rfl, rfl, .inl (.inl (.inl hD3)), ?_, ?_⟩
      · rw [hz0]
        omega
      · have hl2 : (Txt.join ("" : Str) ys).length ≤ 31 := by omega
        refine ⟨sz 6, fun p2 hp2 => ⟨_, rfl, b, 6, _, rfl, by decide, by decide, by omega, B3.new hp2, fun d5 H5 g1 g2 B5 e5 => ?_⟩⟩
        have hP5 : H5 p2 = some (.lst (([("" : Str), "", "-", "--", "+", "-"] : List Str).map V.str)) := e5 _ _ (B3.ne hp2).symm upd_same
        obtain ⟨y, hy, hyA, hyl⟩ := pick_str (ys := [("" : Str), "", "-", "--", "+", "-"]) (m := 2) (by
          intro y hy
          have : ∀ y ∈ ([("" : Str), "", "-", "--", "+", "-"] : List Str), (y.cps.toList.all fun c => decide (c < 128)) = true ∧ y.length ≤ 2 := by decide +kernel
          exact ⟨asc_dec y (this y hy).1, (this y hy).2⟩) g1 (by show d5 < 6; exact g2)
        have E5 := e3.trans ((Ext.new hp2).trans e5)
        refine ⟨p2, _, d5, _, rfl, rfl, .inl (.inl hP5), hy, _, rfl, .inr (.inl ⟨_, _, rfl, rfl, sz _ (by omega), ?_⟩)⟩
        have hx : (y ++ Txt.join ("" : Str) ys).length ≤ 33 := by rw [len_app]; omega
        have hxA : Asc (y ++ Txt.join ("" : Str) ys) := asc_app hyA hAj
        refine ⟨_, rfl, b, 4, _, rfl, by decide, by decide, by omega, B5, fun d6 H6 j1 j2 B6 e6 => ⟨rfl, _, rfl, ite2 (fun _ => ?_) (fun _ => ?_)⟩⟩
        · refine ⟨_, rfl, _, rfl, .inr ⟨_, rfl, sz _ (by omega), .inl ⟨_, _, rfl, rfl, b, _, _, rfl, by omega, by omega, by omega, B6, fun d7 H7 k1 k2 B7 e7 => ?_⟩⟩⟩
          refine ⟨_, rfl, _, rfl, _, rfl, _, rfl, sz _ (by omega), sz 7, fun p3 hp3 => ⟨_, rfl, b, 7, _, rfl, by decide, by decide, by omega, B7.new hp3, fun d8 H8 l1 l2 B8 e8 => ?_⟩⟩
          have hP8 : H8 p3 = some (.lst (([(" " : Str), "a", "_", "-", "\n", "0", "."] : List Str).map V.str)) := e8 _ _ (B7.ne hp3).symm upd_same
          obtain ⟨y2, hy2, hyA2, hyl2⟩ := pick_str (ys := [(" " : Str), "a", "_", "-", "\n", "0", "."]) (m := 2) (by
            intro y hy
            have : ∀ y ∈ ([(" " : Str), "a", "_", "-", "\n", "0", "."] : List Str), (y.cps.toList.all fun c => decide (c < 128)) = true ∧ y.length ≤ 2 := by decide +kernel
            exact ⟨asc_dec y (this y hy).1, (this y hy).2⟩) l1 (by show d8 < 7; exact l2)
          have hc1 := len_cut (y ++ Txt.join ("" : Str) ys) none (some d7)
          have hc2 := len_cut (y ++ Txt.join ("" : Str) ys) (some d7) none
          refine ⟨p3, _, d8, _, rfl, rfl, .inl (.inl hP8), hy2, .inr (.inl ⟨_, _, rfl, rfl, sz _ (by omega), _, rfl, _, rfl, _, rfl, _, rfl, sz _ (by omega), .inr (.inl ⟨_, _, rfl, rfl, sz _ (by rw [len_app]; omega), ?_⟩)⟩)⟩
          refine ⟨_, rfl, q _ _ ?_ (asc_app (asc_app (asc_cut hxA _ _) hyA2) (asc_cut hxA _ _)) (B8.mono (by omega)) (E5.trans (e6.trans (e7.trans ((Ext.new hp3).trans e8))))⟩
          rw [len_app, len_app]
          omega
        · exact ⟨_, rfl, q _ _ (by omega) hxA (B6.mono (by omega)) (E5.trans e6)⟩
theorem ok_line {f : Addr} {fd : FuncData} (F : Fun K "_law_line" "_law_line" s_law_line f fd) (T : Txt mg) (claw_take : Cal P w K mg base 1 "_law_take" spTake []) : FnOk P w K mg base CX0 2 f fd ["_law_box_here"] spStr := by
  have nd := sc_law_line.nd
  refine F.ok sc_law_line (fun vs H Q E h => ?_) (fun cdv A outer s H vs Q E hr h => ?_)
  · obtain ⟨_, _, rfl, _⟩ := h
    rfl
  · obtain ⟨b, n, rfl, hn, hB, q⟩ := h
    refine ⟨_, (pss_cons (ps_set (i := 1) nd rfl (Or.inr rfl) pe_str)
      (pss_cons (ps_set (i := 2) nd rfl (Or.inl rfl) (pe_lst pa_nil))
      (pss_cons (ps_for PassesOwn.never rfl (pi_range1 rfl T.m_range (pa_cons (pe_op oAdd pe_int (pe_c claw_take hr (by decide) rfl (pa_cons (pv 0) (pa_cons pe_int pa_nil)))) pa_nil)) (pg_name (i := 3) nd rfl (Or.inl rfl))
      (pss_one (ps_expr (pe_bm PySem.F.plainAttrs_list PySem.F.slot_list_append PySem.F.type_list_append mt_append (pv 2) (pa_cons (pe_join pe_str (pe_lc (own := [("_law_j", 6)]) (g := gName 6) (tt := tYes) rfl nd (pi_range1 rfl T.m_range (pa_cons (pe_op oAdd pe_int (pe_c claw_take hr (by decide) rfl (pa_cons (pv 0) (pa_cons pe_int pa_nil)))) pa_nil)) (blkOk_by (N := ["_law_box_here", "_law_signs", "_law_words_here", "_law_k", "_law_text", "_law_at", "_law_j"]) (sc := defScope s_law_line) (by decide +kernel)) (fun _ _ _ _ _ => pg_name (i := 6) nd rfl (Or.inl rfl)) (fun _ _ _ _ _ => pts_nil) (fun _ _ _ _ _ => (pe_ix ix_str (pv 1) (pe_c claw_take hr (by decide) rfl (pa_cons (pv 0) (pa_cons pe_int pa_nil))) (fun _ _ => rfl))))) pa_nil)))))
      (pss_cons (ps_set (i := 4) nd rfl (Or.inl rfl) (pe_join pe_str (pv 2)))
      (pss_cons (ps_if (pt_cmpR op_eq (pe_c claw_take hr (by decide) rfl (pa_cons (pv 0) (pa_cons pe_int pa_nil))) pe_int (by rfl))
      (pss_cons (ps_set (i := 5) nd rfl (Or.inl rfl) (pe_c claw_take hr (by decide) rfl (pa_cons (pv 0) (pa_cons (pe_op oAdd (pe_callB (lenK K) (by rfl) T.m_len PySem.boot_len (pa_cons (pv 4) pa_nil)) pe_int) pa_nil))))
      (pss_one (ps_set (i := 4) nd rfl (Or.inl rfl) (pe_op oAdd (pe_op oAdd (pe_slice sl_str (pv 4) po_none (po_some (pv 5))) (pe_ix (ixL K) (pe_lst (pa_cons pe_str (pa_cons pe_str (pa_cons pe_str pa_nil)))) (pe_c claw_take hr (by decide) rfl (pa_cons (pv 0) (pa_cons pe_int pa_nil))) (fun _ _ => rfl))) (pe_slice sl_str (pv 4) (po_some (pv 5)) po_none))))) pss_nil)
      (pss_one (ps_ret (pv 4)))))))), ?_⟩
    refine ⟨sz 0, fun p hp => ?_⟩
    have hbp : b ≠ p := hB.ne hp
    have E1 : Ext b H (upd H p (.lst [])) := Ext.new hp
    refine ⟨_, rfl, b, 6, n, rfl, by decide, by decide, by omega, hB.new hp, fun d1 H1 a1 a2 B1 e1 => .inl ⟨_, _, rfl, rfl, _, rfl, by omega, by omega, ?_⟩⟩
    refine for_range (fun i σ H' => Box H' b (n + 1 + 6 * i) ∧ Ext b H H' ∧ ∃ (ys : List Str) (v3 : Option V), ys.length = i ∧ (∀ y ∈ ys, Asc y ∧ y.length ≤ 5) ∧ H' p = some (.lst (ys.map V.str)) ∧ σ = [some (.ref b), some (.str "!#$&*+,-./09:;<=>?@AZ[]^_az{|}~"), some (.ref p), v3, none, none, none]) ⟨B1.mono (by omega), E1.trans e1, [], _, rfl, (fun _ h => nomatch h), e1 _ _ hbp.symm upd_same, rfl⟩ (fun i σ H2 hi h => ?_) (fun σ H2 h => ?_)
    · obtain ⟨B2, E2, ys, v3, hl, hys, hp2, rfl⟩ := h
      have hi6 : i < 6 := by
        have h1 : i < (1 + d1).toNat := hi
        omega
      refine ⟨_, rfl, .inl ⟨rfl, _, .inl (.inl hp2)⟩, ⟨_, rfl⟩, _, rfl, b, 5, _, rfl, by decide, by decide, by omega, B2, fun d2 H3 c1 c2 B3 e3 => .inl ⟨_, _, rfl, rfl, _, rfl, by omega, by omega, fun D hD => ?_⟩⟩
      have E3 := E2.trans e3
      have hbD : b ≠ D := B3.ne hD
      have hp3 : H3 p = some (.lst (ys.map V.str)) := e3 _ _ hbp.symm hp2
      have hpD : p ≠ D := ne_of_none hp3 hD
      refine lc_range (fun j H' => Box H' b (n + 1 + 6 * i + 1 + j) ∧ Ext b H3 H' ∧ ∃ zs : List Str, zs.length = j ∧ (∀ y ∈ zs, Asc y ∧ y.length ≤ 1) ∧ H' D = some (.lst (zs.map V.str))) ?_ (fun j H' hj p' => ?_) (fun H4 p' => ?_)
      · exact ⟨(B3.new hD).mono (by omega), Ext.new hD, [], rfl, (fun _ h => nomatch h), upd_same⟩
      · obtain ⟨B4, e4, zs, hzl, hz1, hD4⟩ := p'
        have hj5 : j < 5 := by
          have h1 : j < (1 + d2).toNat := hj
          omega
        refine ⟨rfl, _, rfl, _, rfl, b, 31, _, rfl, by decide, by decide, by omega, B4, fun d H5 f1 f2 B5 e5 => ?_⟩
        obtain ⟨c, hc, hc2⟩ := at_lt (cs := ("!#$&*+,-./09:;<=>?@AZ[]^_az{|}~" : Str).cps.toList) (by decide +kernel) f1 (by rw [show (("!#$&*+,-./09:;<=>?@AZ[]^_az{|}~" : Str).cps.toList.length : Int) = 31 by decide +kernel]; exact f2)
        refine ⟨_, _, c, rfl, rfl, by decide +kernel, hc, zs.map V.str, e5 _ _ hbD.symm hD4, ?_, ?_⟩
        · rw [List.length_map]
          exact small1000 (by omega)
        · refine ⟨(B5.upd hbD).mono (by omega), (e4.trans e5).mut hD, zs ++ [⟨#[c]⟩], by simp [hzl], fun y hy => ?_, ?_⟩
          · rcases List.mem_append.mp hy with hy | hy
            · exact hz1 y hy
            · rw [List.mem_singleton.mp hy]
              exact ⟨asc_one hc2, Nat.le_refl _⟩
          · rw [upd_same, List.map_append]
            rfl
      · obtain ⟨B4, e4, zs, hzl, hz1, hD4⟩ := p'
        have hsum := sum_le_of (m := 1) fun y hy => (hz1 y hy).2
        have hln := len_join ("" : Str) zs
        have hz0 : ("" : Str).length = 0 := rfl
        rw [hz0] at hln
        have hAj := asc_join asc_nil fun y hy => (hz1 y hy).1
        have hz5 : zs.length ≤ 5 := by
          have h1 : zs.length = (1 + d2).toNat := hzl
          omega
        refine ⟨_, D, zs, rfl, rfl, .inl (.inl (.inl hD4)), ?_, ?_⟩
        · rw [hz0]
          omega
        · have hp4 : H4 p = some (.lst (ys.map V.str)) := e4 _ _ hbp.symm hp3
          refine ⟨p, _, _, rfl, rfl, hp4, ?_, (B4.upd hbp).mono (by omega), (E3.trans e4).mut hp, ys ++ [Txt.join ("" : Str) zs], _, by simp [hl], fun y hy => ?_, ?_, rfl⟩
          · rw [List.length_map]
            exact small1000 (by omega)
          · rcases List.mem_append.mp hy with hy | hy
            · exact hys y hy
            · rw [List.mem_singleton.mp hy]
              exact ⟨hAj, by omega⟩
          · rw [upd_same, List.map_append]
            rfl
    · obtain ⟨B2, E2, ys, v3, hl, hys, hp2, rfl⟩ := h
      have hl6 : ys.length ≤ 6 := by
        have h1 : ys.length = (1 + d1).toNat := hl
        omega
      have hsum := sum_le_of (m := 5) fun y hy => (hys y hy).2
      have hln := len_join (" " : Str) ys
      have hz1 : (" " : Str).length = 1 := rfl
      rw [hz1] at hln
      have hAs : Asc (" " : Str) := asc_dec _ (by decide +kernel)
      have hAj := asc_join hAs fun y hy => (hys y hy).1
      refine ⟨⟨_, rfl⟩, _, rfl, _, p, ys, rfl, rfl, .inl (.inl (.inl hp2)), ?_, ?_⟩
      · rw [hz1]
        omega
      · have hx : (Txt.join (" " : Str) ys).length ≤ 40 := by omega
        have hB2 : Box H2 b (n + 40) := B2.mono (by
          have h1 : ys.length = (1 + d1).toNat := hl
          omega)
        refine ⟨_, rfl, b, 2, _, rfl, by decide, by decide, by omega, hB2, fun d6 H6 j1 j2 B6 e6 => ⟨rfl, _, rfl, ite2 (fun _ => ?_) (fun _ => ?_)⟩⟩
        · refine ⟨_, rfl, _, rfl, .inr ⟨_, rfl, sz _ (by omega), .inl ⟨_, _, rfl, rfl, b, _, _, rfl, by omega, by omega, by omega, B6, fun d7 H7 k1 k2 B7 e7 => ?_⟩⟩⟩
          refine ⟨_, rfl, _, rfl, _, rfl, _, rfl, sz _ (by omega), sz 3, fun p3 hp3 => ⟨_, rfl, b, 3, _, rfl, by decide, by decide, by omega, B7.new hp3, fun d8 H8 l1 l2 B8 e8 => ?_⟩⟩
          have hP8 : H8 p3 = some (.lst (([(" " : Str), "  ", "\n"] : List Str).map V.str)) := e8 _ _ (B7.ne hp3).symm upd_same
          obtain ⟨y2, hy2, hyA2, hyl2⟩ := pick_str (ys := [(" " : Str), "  ", "\n"]) (m := 2) (by
            intro y hy
            have : ∀ y ∈ ([(" " : Str), "  ", "\n"] : List Str), (y.cps.toList.all fun c => decide (c < 128)) = true ∧ y.length ≤ 2 := by decide +kernel
            exact ⟨asc_dec y (this y hy).1, (this y hy).2⟩) l1 (by show d8 < 3; exact l2)
          have hc1 := len_cut (Txt.join (" " : Str) ys) none (some d7)
          have hc2 := len_cut (Txt.join (" " : Str) ys) (some d7) none
          refine ⟨p3, _, d8, _, rfl, rfl, .inl (.inl hP8), hy2, .inr (.inl ⟨_, _, rfl, rfl, sz _ (by omega), _, rfl, _, rfl, _, rfl, _, rfl, sz _ (by omega), .inr (.inl ⟨_, _, rfl, rfl, sz _ (by rw [len_app]; omega), ?_⟩)⟩)⟩
          refine ⟨_, rfl, q _ _ ?_ (asc_app (asc_app (asc_cut hAj _ _) hyA2) (asc_cut hAj _ _)) (B8.mono (by omega)) (E2.trans (e6.trans (e7.trans ((Ext.new hp3).trans e8))))⟩
          rw [len_app, len_app]
          omega
        · exact ⟨_, rfl, q _ _ (by omega) hAj (B6.mono (by omega)) (E2.trans e6)⟩
end
end Pk

set_option Elab.async false
set_option linter.all false
set_option maxRecDepth 100000
set_option maxHeartbeats 4000000
namespace Pk
open PySem PySem.Spec PyProof.Rows L2 Pu Pz
abbrev s_law_right : Stmt := topS 14
theorem sc_law_right : FnScope ["_law_box_here", "_law_odd", "_law_text", "_law_floor", "_law_roof", "_law_here", "_law_found", "_law_due_here", "_law_line_here", "_law_words_here"] ["_law_box_here"] (defScope s_law_right) := ⟨rfl, rfl, rfl, by decide +kernel, rfl, by decide +kernel, by decide +kernel⟩
abbrev s_law : Stmt := topS 15
theorem sc_law : FnScope ["_law_script", "_law_k", "_law_box_here", "_law_turn"] ["_law_script"] (defScope s_law) := ⟨rfl, rfl, rfl, by decide +kernel, rfl, by decide +kernel, by decide +kernel⟩

/-! ### what may stand for a text -/
def Obj3 (o : HO) : Prop := (∃ xs, o = .lst xs) ∨ (∃ xs, o = .tup xs) ∨ ∃ kvs, o = .dK kvs
def OddX (b : Addr) (H : Hp) (v : V) : Prop := v = .non ∨ (∃ i, v = .int i) ∨ (∃ x, v = .bl x) ∨ (∃ z : Str, v = .str z ∧ z.length ≤ 600 ∧ Asc z) ∨ ∃ a o, v = .ref a ∧ a ≠ b ∧ H a = some o ∧ Obj3 o
theorem OddX.ext {b : Addr} {H H' : Hp} {v : V} (h : OddX b H v) (e : Ext b H H') : OddX b H' v := by
  rcases h with h | h | h | h | ⟨a, o, h1, h2, h3, h4⟩
  · exact .inl h
  · exact .inr (.inl h)
  · exact .inr (.inr (.inl h))
  · exact .inr (.inr (.inr (.inl h)))
  · exact .inr (.inr (.inr (.inr ⟨a, o, h1, h2, e _ _ h2 h3, h4⟩)))
theorem OddX.kind {K : PySem.W.Frag} {b : Addr} {H : Hp} {v : V} (h : OddX b H v) : (∃ z : Str, v = .str z ∧ z.length ≤ 600 ∧ Asc z) ∨ ((∀ z, v ≠ .str z) ∧ ∃ T : String, TyX K H v (.type T) ∧ T ∈ ["NoneType", "int", "bool", "list", "tuple", "dict"]) := by
  rcases h with rfl | ⟨i, rfl⟩ | ⟨x, rfl⟩ | h | ⟨a, o, rfl, h2, h3, h4⟩
  · exact .inr ⟨(fun _ z => by cases z), _, .base .non, by decide⟩
  · exact .inr ⟨(fun _ z => by cases z), _, .base (.int i), by decide⟩
  · exact .inr ⟨(fun _ z => by cases z), _, .base (.bl x), by decide⟩
  · exact .inl h
  · refine .inr ⟨(fun _ z => by cases z), ?_⟩
    rcases h4 with ⟨xs, rfl⟩ | ⟨xs, rfl⟩ | ⟨xs, rfl⟩
    · exact ⟨_, .base (.lst h3), by decide⟩
    · exact ⟨_, .base (.tup h3), by decide⟩
    · exact ⟨_, .base (.dK h3), by decide⟩
/-- the number that it represents -/
def numOf : V → Option Int
  | .str z => parse z.cps.toList
  | _ => none
def partsOf : V → Option (List Str)
  | .str z => wordsOf z
  | _ => none
theorem num_other {v : V} (h : ∀ z, v ≠ .str z) : numOf v = none := by
  cases v <;> first | rfl | exact absurd rfl (h _)
theorem parts_other {v : V} (h : ∀ z, v ≠ .str z) : partsOf v = none := by
  cases v <;> first | rfl | exact absurd rfl (h _)
theorem OddX.arg {K : PySem.W.Frag} {b : Addr} {H : Hp} {v : V} (h : OddX b H v) : Arg K H v (numOf v) := by
  rcases h.kind (K := K) with ⟨z, rfl, hz, hA⟩ | ⟨hn, T, hT, hk⟩
  · exact .inl ⟨z, rfl, hz, rfl, hA⟩
  · exact .inr ⟨T, hT, hk, num_other hn⟩
theorem OddX.argW {K : PySem.W.Frag} {b : Addr} {H : Hp} {v : V} (h : OddX b H v) : ArgW K H v (partsOf v) := by
  rcases h.kind (K := K) with ⟨z, rfl, hz, hA⟩ | ⟨hn, T, hT, hk⟩
  · exact .inl ⟨z, rfl, hz, rfl, hA⟩
  · exact .inr ⟨T, hT, hk, parts_other hn⟩
theorem OddX.parts {b : Addr} {H : Hp} {v : V} {ys : List Str} (h : OddX b H v) (e : partsOf v = some ys) : (∀ y ∈ ys, Asc y) ∧ (ys.map (·.length)).sum ≤ 600 ∧ ys.length ≤ 601 := by
  rcases h.kind (K := default) with ⟨z, rfl, hz, hA⟩ | ⟨hn, _⟩
  · exact words_ok hz hA e
  · rw [parts_other hn] at e
    cases e
theorem num_small {v : V} {i : Int} (e : numOf v = some i) : i.natAbs < 10 ^ 30 := by
  cases v with
  | str z =>
    have e : parse z.cps.toList = some i := e
    unfold parse at e
    split at e
    · rename_i h
      rw [← Option.some.inj e]
      exact val_small (dec_good h)
    · cases e
  | _ => cases e
theorem within_small {lo hi o : Option Int} (h : ∀ i, o = some i → i.natAbs < 10 ^ 30) : ∀ i, within lo hi o = some i → i.natAbs < 10 ^ 30 := by
  intro i e
  cases o with
  | none => cases e
  | some k =>
    unfold within at e
    simp only at e
    split at e
    · rw [← Option.some.inj e]
      exact h k rfl
    · cases e
/-! ### the show of such numbers -/
def optD : Option Int → PyData
  | none => .none
  | some i => .int i
theorem dp_opts {K : PySem.W.Frag} {H : Hp} : ∀ rs : List (Option Int), DpAll K H (rs.map optV) (rs.map optD)
  | [] => .nil
  | none :: r => .cons .non (dp_opts r)
  | some i :: r => .cons (.int i) (dp_opts r)
theorem show_opts : ∀ rs : List (Option Int), (∀ r ∈ rs, ∀ i, r = some i → i.natAbs < 10 ^ 30) → piled (PyData.shownAll (rs.map optD)) ≤ 50 * rs.length ∧ PyData.showableAll (rs.map optD) = true ∧ PyData.depthAll (rs.map optD) = 0
  | [], _ => ⟨Nat.le_refl _, rfl, rfl⟩
  | none :: r, h => by
    obtain ⟨h1, h2, h3⟩ := show_opts r fun x hx => h x (List.mem_cons_of_mem _ hx)
    refine ⟨?_, ?_, ?_⟩
    · show piled (("None" : Str) :: PyData.shownAll (r.map optD)) ≤ _
      rw [piled_cons, List.length_cons]
      have : ("None" : Str).length = 4 := rfl
      omega
    · show (true && PyData.showableAll (r.map optD)) = true
      rw [h2]
      rfl
    · show max 0 (PyData.depthAll (r.map optD)) = 0
      rw [h3]
      rfl
  | some i :: r, h => by
    obtain ⟨h1, h2, h3⟩ := show_opts r fun x hx => h x (List.mem_cons_of_mem _ hx)
    have hi := h (some i) (List.mem_cons_self ..) i rfl
    have hi2 : i.natAbs < 10 ^ 40 := Nat.lt_trans hi (by decide)
    refine ⟨?_, ?_, ?_⟩
    · show piled (((toString i : String) : Str) :: PyData.shownAll (r.map optD)) ≤ _
      rw [piled_cons, List.length_cons]
      have := int_len hi2
      omega
    · show (decide (i.natAbs.log2 < 1920) && PyData.showableAll (r.map optD)) = true
      rw [h2, decide_eq_true (log_small hi2)]
      rfl
    · show max 0 (PyData.depthAll (r.map optD)) = 0
      rw [h3]
      rfl
theorem opts_show {rs : List (Option Int)} (h : ∀ r ∈ rs, ∀ i, r = some i → i.natAbs < 10 ^ 30) (hl : rs.length ≤ 100) : PyData.showable (.list (rs.map optD)) = true ∧ PyData.depth (.list (rs.map optD)) ≤ 40 ∧ (PyData.shown (.list (rs.map optD))).length ≤ sizeLine := by
  obtain ⟨h1, h2, h3⟩ := show_opts rs h
  refine ⟨h2, ?_, ?_⟩
  · simp only [PyData.depth, h3]
    decide
  · have := listText_le (PyData.shownAll (rs.map optD))
    exact sz _ (by
      show (listText (PyData.shownAll (rs.map optD))).length ≤ 100000
      omega)
theorem strs_show {ys : List Str} (h : ∀ y ∈ ys, Asc y) (hs : (ys.map (·.length)).sum ≤ 600) (hl : ys.length ≤ 601) : PyData.showable (.list (ys.map PyData.str)) = true ∧ PyData.depth (.list (ys.map PyData.str)) ≤ 40 ∧ (PyData.shown (.list (ys.map PyData.str))).length ≤ sizeLine := by
  have := shown_strs h
  exact ⟨showable_strs ys, depth_strs ys, sz _ (by omega)⟩
theorem none_show : PyData.depth .none ≤ 40 ∧ (PyData.shown .none).length ≤ sizeLine := by decide +kernel
theorem boxSame {H H' : Hp} {b : Addr} {n : Int} (h : Box H b n) (s : Same H H') : Box H' b n := by
  obtain ⟨x, y, z, e, r⟩ := h
  exact ⟨x, y, z, s _ _ e, r⟩
theorem sameExt {H H' : Hp} (b : Addr) (s : Same H H') : Ext b H H' := fun a o _ h => s a o h
section
variable {P : Program} {w : World} {K : PySem.W.Frag} {mg : Str → Option Value} {base : Heap}
def spRight : Sp := fun vs H Q _ => ∃ (b : Addr) (n : Int), vs = [.ref b] ∧ n ≤ 800000 ∧ Box H b n ∧ ∀ H', Box H' b (n + 200) → Ext b H H' → Q (.bl true) H'
theorem ok_right {f : Addr} {fd : FuncData} (F : Fun K "_law_right" "_law_right" s_law_right f fd) (T : Txt mg) (claw_take : Cal P w K mg base 1 "_law_take" spTake []) (claw_digits : Cal P w K mg base 2 "_law_digits" spStr []) (claw_line : Cal P w K mg base 2 "_law_line" spStr [])
    (claw_due : Cal P w K mg base 1 "_law_due" (spParse K) []) (claw_words : Cal P w K mg base 1 "_law_words" (spWords K) []) (csplit_words : Cal P w K mg base 1 "split_words" (spWords K) []) (cparse_integer : Cal P w K mg base 2 "parse_integer" (spParse K) [.non, .non])
    (cparse_l : CalN P w K mg base 2 "parse_integer" 1 ["low"] (fun vs zs => vs ++ (zs ++ [.non])) (spParse K)) (cparse_h : CalN P w K mg base 2 "parse_integer" 1 ["high"] (fun vs zs => vs ++ ([.non] ++ zs)) (spParse K)) (cparse_hl : CalN P w K mg base 2 "parse_integer" 1 ["high", "low"] (fun vs zs => vs ++ zs.reverse) (spParse K)) :
    FnG P w K mg base CX0 3 f fd ["_law_box_here"] spRight := by
  have nd := sc_law_right.nd
  refine fnG F sc_law_right (fun vs H Q E h => ?_) (fun cdv A outer s H vs Q E hG hr h => ?_)
  · obtain ⟨_, _, rfl, _⟩ := h
    rfl
  · obtain ⟨b, n, rfl, hn, hB, q⟩ := h
    refine ⟨_, (pss_cons (ps_set (i := 1) nd rfl (Or.inl rfl) (pe_ix (ixL K) (pe_lst (pa_cons pe_non (pa_cons pe_int (pa_cons pe_bl (pa_cons (pe_lst (pa_cons pe_str pa_nil)) (pa_cons (pe_tup (pa_cons pe_str pa_nil)) (pa_cons pe_dnewK (pa_cons pe_str (pa_cons pe_str (pa_cons pe_str (pa_cons pe_str (pa_cons pe_str pa_nil)))))))))))) (pe_c claw_take hr (by decide) rfl (pa_cons (pv 0) (pa_cons pe_int pa_nil))) (fun _ _ => rfl)))
      (pss_cut (ps_set (i := 2) nd rfl (Or.inl rfl) (pe_ifExp (pt_cmpR op_gt (pe_c claw_take hr (by decide) rfl (pa_cons (pv 0) (pa_cons pe_int pa_nil))) pe_int (by rfl)) (pe_c claw_digits hr (by decide) rfl (pa_cons (pv 0) pa_nil)) (pv 1)))
      (pss_cons (ps_set (i := 3) nd rfl (Or.inl rfl) (pe_ix (ixL K) (pe_lst (pa_cons (pe_op op_sub (pe_c claw_take hr (by decide) rfl (pa_cons (pv 0) (pa_cons pe_int pa_nil))) pe_int) (pa_cons (pe_op op_sub pe_int (pe_op op_pow pe_int pe_int)) (pa_cons pe_int pa_nil)))) (pe_c claw_take hr (by decide) rfl (pa_cons (pv 0) (pa_cons pe_int pa_nil))) (fun _ _ => rfl)))
      (pss_cons (ps_set (i := 4) nd rfl (Or.inl rfl) (pe_ix (ixL K) (pe_lst (pa_cons (pe_op op_sub (pe_c claw_take hr (by decide) rfl (pa_cons (pv 0) (pa_cons pe_int pa_nil))) pe_int) (pa_cons (pe_op op_pow pe_int pe_int) (pa_cons pe_int pa_nil)))) (pe_c claw_take hr (by decide) rfl (pa_cons (pv 0) (pa_cons pe_int pa_nil))) (fun _ _ => rfl)))
      (pss_cons (ps_set (i := 5) nd rfl (Or.inl rfl) (pe_c claw_due hr (by decide) rfl (pa_cons (pv 2) (pa_cons pe_non (pa_cons pe_non pa_nil)))))
      (pss_cut (ps_if (PW.pt (pw_and (pt_cmpR op_notN (pv 5) pe_non (by rfl)) (pw_and1 (pt_cmpR op_eq (pe_c claw_take hr (by decide) rfl (pa_cons (pv 0) (pa_cons pe_int pa_nil))) pe_int (by rfl)))))
      (pss_cons (ps_set (i := 3) nd rfl (Or.inl rfl) (pe_op oAdd (pv 5) (pe_op op_mul (pe_c claw_take hr (by decide) rfl (pa_cons (pv 0) (pa_cons pe_int pa_nil))) (pe_callTy call_int1 (by rfl) T.m_int PyProof.Rows.boot_int (pa_cons (pe_cmpR op_lt (pe_callB call_abs (by rfl) T.m_abs PyProof.Rows.boot_abs (pa_cons (pv 5) pa_nil)) (pe_op op_pow pe_int pe_int) (by rfl)) pa_nil)))))
      (pss_one (ps_set (i := 4) nd rfl (Or.inl rfl) (pe_op op_sub (pv 5) (pe_op op_mul (pe_c claw_take hr (by decide) rfl (pa_cons (pv 0) (pa_cons pe_int pa_nil))) (pe_callTy call_int1 (by rfl) T.m_int PyProof.Rows.boot_int (pa_cons (pe_cmpR op_lt (pe_callB call_abs (by rfl) T.m_abs PyProof.Rows.boot_abs (pa_cons (pv 5) pa_nil)) (pe_op op_pow pe_int pe_int) (by rfl)) pa_nil))))))) pss_nil)
      (pss_cons (ps_set (i := 6) nd rfl (Or.inl rfl) (pe_lst (pa_cons (pe_c cparse_integer hr (by decide) rfl (pa_cons (pv 2) pa_nil)) (pa_cons (pe_cN cparse_l hr (by decide) rfl (pa_cons (pv 2) pa_nil) (pk_cons (pv 3) pk_nil)) (pa_cons (pe_cN cparse_h hr (by decide) rfl (pa_cons (pv 2) pa_nil) (pk_cons (pv 4) pk_nil)) pa_nil)))))
      (pss_cons (ps_expr (pe_bm PySem.F.plainAttrs_list PySem.F.slot_list_append PySem.F.type_list_append mt_append (pv 6) (pa_cons (pe_cN cparse_hl hr (by decide) rfl (pa_cons (pv 2) pa_nil) (pk_cons (pv 4) (pk_cons (pv 3) pk_nil))) pa_nil)))
      (pss_cons (ps_set (i := 7) nd rfl (Or.inl rfl) (pe_lst (pa_cons (pe_c claw_due hr (by decide) rfl (pa_cons (pv 2) (pa_cons pe_non (pa_cons pe_non pa_nil)))) (pa_cons (pe_c claw_due hr (by decide) rfl (pa_cons (pv 2) (pa_cons (pv 3) (pa_cons pe_non pa_nil)))) (pa_cons (pe_c claw_due hr (by decide) rfl (pa_cons (pv 2) (pa_cons pe_non (pa_cons (pv 4) pa_nil)))) pa_nil)))))
      (pss_cons (ps_expr (pe_bm PySem.F.plainAttrs_list PySem.F.slot_list_append PySem.F.type_list_append mt_append (pv 7) (pa_cons (pe_c claw_due hr (by decide) rfl (pa_cons (pv 2) (pa_cons (pv 3) (pa_cons (pv 4) pa_nil)))) pa_nil)))
      (pss_cons (ps_if (pt_cmpR op_ne (pe_callB (reprG K hG hr.units) (by rfl) T.m_repr PyProof.Rows.boot_repr (pa_cons (pv 6) pa_nil)) (pe_callB (reprG K hG hr.units) (by rfl) T.m_repr PyProof.Rows.boot_repr (pa_cons (pv 7) pa_nil)) (by rfl))
      (pss_one (ps_ret pe_bl)) pss_nil)
      (pss_cut (ps_set (i := 8) nd rfl (Or.inl rfl) (pe_ifExp (pt_cmpR op_gt (pe_c claw_take hr (by decide) rfl (pa_cons (pv 0) (pa_cons pe_int pa_nil))) pe_int (by rfl)) (pe_c claw_line hr (by decide) rfl (pa_cons (pv 0) pa_nil)) (pv 1)))
      (pss_cons (ps_set (i := 9) nd rfl (Or.inl rfl) (pe_c csplit_words hr (by decide) rfl (pa_cons (pv 8) pa_nil)))
      (pss_cons (ps_if (pt_cmpR op_ne (pe_callB (reprG K hG hr.units) (by rfl) T.m_repr PyProof.Rows.boot_repr (pa_cons (pv 9) pa_nil)) (pe_callB (reprG K hG hr.units) (by rfl) T.m_repr PyProof.Rows.boot_repr (pa_cons (pe_c claw_words hr (by decide) rfl (pa_cons (pv 8) pa_nil)) pa_nil)) (by rfl))
      (pss_one (ps_ret pe_bl)) pss_nil)
      (pss_cons (ps_if (pt_cmpR op_notN (pv 9) pe_non (by rfl))
      (pss_one (ps_expr (pe_bm PySem.F.plainAttrs_list PySem.F.slot_list_append PySem.F.type_list_append mt_append (pv 9) (pa_cons pe_str pa_nil)))) pss_nil)
      (pss_one (ps_ret (pe_cmpR op_eq (pe_callB (reprG K hG hr.units) (by rfl) T.m_repr PyProof.Rows.boot_repr (pa_cons (pe_c csplit_words hr (by decide) rfl (pa_cons (pv 8) pa_nil)) pa_nil)) (pe_callB (reprG K hG hr.units) (by rfl) T.m_repr PyProof.Rows.boot_repr (pa_cons (pe_c claw_words hr (by decide) rfl (pa_cons (pv 8) pa_nil)) pa_nil)) (by rfl))))))))))))))))))), ?_⟩
    -- the odd one
    refine ⟨sz 1, fun p1 n1 => ⟨sz 1, fun p2 n2 => fun p3 n3 => ⟨sz 11, fun p4 n4 => ⟨_, rfl, b, 11, n, rfl, by decide, by decide, by omega, ((hB.new n1).new n2).new n3 |>.new n4, fun d H1 d0 d1 B1 e1 => ?_⟩⟩⟩⟩
    have y1 := hB.ne n1
    have y2 := (hB.new (o := .lst [.str "1"]) n1).ne n2
    have y3 := ((hB.new (o := .lst [.str "1"]) n1).new (o := .tup [.str "a b"]) n2).ne n3
    have y4 := (((hB.new (o := .lst [.str "1"]) n1).new (o := .tup [.str "a b"]) n2).new (o := .dK []) n3).ne n4
    have X1 := Ext.new (b := b) (o := .lst [.str "1"]) n1
    have X2 := Ext.new (b := b) (o := .tup [.str "a b"]) n2
    have X3 := Ext.new (b := b) (o := .dK []) n3
    have X4 := (Ext.new (b := b) (o := .lst [.non, .int 7, .bl true, .ref p1, .ref p2, .ref p3, .str "", .str " ", .str "-", .str "0", .str "-0"]) n4).trans e1
    have E1 : Ext b H H1 := X1.trans (X2.trans (X3.trans X4))
    have o1 : H1 p1 = some (.lst [.str "1"]) := (X2.trans (X3.trans X4)) _ _ y1.symm upd_same
    have o2 : H1 p2 = some (.tup [.str "a b"]) := (X3.trans X4) _ _ y2.symm upd_same
    have o3 : H1 p3 = some (.dK []) := X4 _ _ y3.symm upd_same
    have o4 : H1 p4 = some (.lst [.non, .int 7, .bl true, .ref p1, .ref p2, .ref p3, .str "", .str " ", .str "-", .str "0", .str "-0"]) := e1 _ _ y4.symm upd_same
    obtain ⟨odd, hv, hm⟩ := pickN (xs := [V.non, .int 7, .bl true, .ref p1, .ref p2, .ref p3, .str "", .str " ", .str "-", .str "0", .str "-0"]) d0 d1
    have hodd : OddX b H1 odd := by
      simp only [List.mem_cons, List.not_mem_nil, or_false] at hm
      rcases hm with rfl | rfl | rfl | rfl | rfl | rfl | rfl | rfl | rfl | rfl | rfl
      · exact .inl rfl
      · exact .inr (.inl ⟨_, rfl⟩)
      · exact .inr (.inr (.inl ⟨_, rfl⟩))
      · exact .inr (.inr (.inr (.inr ⟨p1, _, rfl, y1.symm, o1, .inl ⟨_, rfl⟩⟩)))
      · exact .inr (.inr (.inr (.inr ⟨p2, _, rfl, y2.symm, o2, .inr (.inl ⟨_, rfl⟩)⟩)))
      · exact .inr (.inr (.inr (.inr ⟨p3, _, rfl, y3.symm, o3, .inr (.inr ⟨_, rfl⟩)⟩)))
      all_goals exact .inr (.inr (.inr (.inl ⟨_, rfl, by decide, asc_dec _ (by decide +kernel)⟩)))
    refine ⟨p4, _, d, odd, rfl, rfl, .inl (.inl o4), hv, ?_⟩
    clear hv hm o1 o2 o3 o4 X1 X2 X3 X4 e1 n1 n2 n3 n4 y1 y2 y3 y4
    -- the text
    refine ⟨fun σ H' => Ext b H H' ∧ Box H' b (n + 70) ∧ OddX b H' odd ∧ ∃ x, OddX b H' x ∧ σ = [some (.ref b), some odd, some x, none, none, none, none, none, none, none], ?_, fun σ H2 hM => ?_⟩
    · refine ⟨_, rfl, b, 5, _, rfl, by decide, by decide, by omega, B1, fun d2 H2 c1 c2 B2 e2 => ⟨_, _, rfl, rfl, _, rfl, ite2 (fun _ => ?_) (fun _ => ?_)⟩⟩
      · exact ⟨_, rfl, b, _, rfl, by omega, B2, fun z H3 hz hA B3 e3 => ⟨E1.trans (e2.trans e3), B3.mono (by omega), hodd.ext (e2.trans e3), .str z, .inr (.inr (.inr (.inl ⟨z, rfl, by omega, hA⟩))), rfl⟩⟩
      · exact ⟨_, rfl, E1.trans e2, B2.mono (by omega), hodd.ext e2, odd, hodd.ext e2, rfl⟩
    obtain ⟨E2, B2, hodd2, x, hx, rfl⟩ := hM
    clear hodd E1 B1
    -- the bounds
    refine ⟨_, rfl, b, 2001, _, rfl, by decide, by decide, by omega, B2, fun d3 H3 f1 f2 B3 e3 => ⟨_, _, rfl, rfl, _, _, rfl, rfl, ⟨by decide, by decide, by decide⟩, _, _, rfl, rfl, sz 3, fun p5 n5 => ⟨_, rfl, b, 3, _, rfl, by decide, by decide, by omega, B3.new n5, fun d4 H4 f3 f4 B4 e4 => ?_⟩⟩⟩
    have hP5 : H4 p5 = some (.lst [.int (d3 - 1000), .int (1 - 10 ^ (30 : Int).toNat), .int 0]) := e4 _ _ (B3.ne n5).symm upd_same
    obtain ⟨v5, hv5, hm5⟩ := pickN (xs := [V.int (d3 - 1000), .int (1 - 10 ^ (30 : Int).toNat), .int 0]) f3 (by show d4 < 3; exact f4)
    obtain ⟨lo, rfl⟩ : ∃ m : Int, v5 = .int m := by
      simp only [List.mem_cons, List.not_mem_nil, or_false] at hm5
      rcases hm5 with rfl | rfl | rfl <;> exact ⟨_, rfl⟩
    refine ⟨p5, _, d4, _, rfl, rfl, .inl (.inl hP5), hv5, ?_⟩
    have e34 : Ext b H2 H4 := e3.trans ((Ext.new n5).trans e4)
    refine ⟨_, rfl, b, 2001, _, rfl, by decide, by decide, by omega, B4, fun d5 H5 g1 g2 B5 e5 => ⟨_, _, rfl, rfl, _, _, rfl, rfl, ⟨by decide, by decide, by decide⟩, sz 3, fun p6 n6 => ⟨_, rfl, b, 3, _, rfl, by decide, by decide, by omega, B5.new n6, fun d6 H6 g3 g4 B6 e6 => ?_⟩⟩⟩
    have hP6 : H6 p6 = some (.lst [.int (d5 - 1000), .int (10 ^ (29 : Int).toNat), .int 0]) := e6 _ _ (B5.ne n6).symm upd_same
    obtain ⟨v6, hv6, hm6⟩ := pickN (xs := [V.int (d5 - 1000), .int (10 ^ (29 : Int).toNat), .int 0]) g3 (by show d6 < 3; exact g4)
    obtain ⟨hi, rfl⟩ : ∃ m : Int, v6 = .int m := by
      simp only [List.mem_cons, List.not_mem_nil, or_false] at hm6
      rcases hm6 with rfl | rfl | rfl <;> exact ⟨_, rfl⟩
    refine ⟨p6, _, d6, _, rfl, rfl, .inl (.inl hP6), hv6, ?_⟩
    have e26 : Ext b H2 H6 := e34.trans (e5.trans ((Ext.new n6).trans e6))
    have hx6 := hx.ext e26
    refine ⟨_, rfl, x, numOf x, none, none, rfl, hx6.arg, fun H7 s7 => ?_⟩
    have hw0 : within none none (numOf x) = numOf x := by
      cases numOf x <;> rfl
    rw [hw0]
    have e27 := e26.trans (sameExt b s7)
    have B7 := boxSame B6 s7
    refine ⟨fun σ H' => Ext b H2 H' ∧ Box H' b (n + 80) ∧ ∃ lo hi : Int, σ = [some (.ref b), some odd, some x, some (.int lo), some (.int hi), some (optV (numOf x)), none, none, none, none], ?_, fun σ H8 hM => ?_⟩
    · cases hnx : numOf x with
      | none => exact ⟨_, rfl, rfl, _, rfl, e27, B7.mono (by omega), _, _, rfl⟩
      | some i =>
        refine ⟨_, rfl, rfl, _, rfl, _, rfl, b, 2, _, rfl, by decide, by decide, by omega, B7, fun d7 H8 k1 k2 B8 e8 => ⟨rfl, _, rfl, ite2 (fun _ => ?_) (fun _ => ?_)⟩⟩
        · refine ⟨_, rfl, _, rfl, b, 2, _, rfl, by decide, by decide, by omega, B8, fun d8 H9 k3 k4 B9 e9 => ⟨_, rfl, _, rfl, _, _, rfl, rfl, ⟨by decide, by decide, by decide⟩, _, _, rfl, rfl, .inr ⟨_, rfl, _, _, rfl, rfl, .inl ⟨by omega, by omega⟩, .inl ⟨_, _, rfl, rfl, ?_⟩⟩⟩⟩
          refine ⟨_, rfl, _, rfl, b, 2, _, rfl, by decide, by decide, by omega, B9, fun d9 H10 k5 k6 B10 e10 => ⟨_, rfl, _, rfl, _, _, rfl, rfl, ⟨by decide, by decide, by decide⟩, _, _, rfl, rfl, .inr ⟨_, rfl, _, _, rfl, rfl, .inl ⟨by omega, by omega⟩, _, _, rfl, rfl, ?_⟩⟩⟩
          exact ⟨e27.trans (e8.trans (e9.trans e10)), B10.mono (by omega), _, _, rfl⟩
        · exact ⟨e27.trans e8, B8.mono (by omega), _, _, rfl⟩
    obtain ⟨e28, B8, lo2, hi2, rfl⟩ := hM
    clear hv5 hm5 hv6 hm6 hP5 hP6 e27 B7 s7 hx6 e26 e34 e3 e4 e5 e6 n5 n6 B3 B4 B5 B6
    have hsm := fun i (e : numOf x = some i) => num_small e
    have hrs : ∀ r ∈ [within none none (numOf x), within (some lo2) none (numOf x), within none (some hi2) (numOf x), within (some lo2) (some hi2) (numOf x)], ∀ i, r = some i → i.natAbs < 10 ^ 30 := by
      intro r hr i e
      simp only [List.mem_cons, List.not_mem_nil, or_false] at hr
      rcases hr with rfl | rfl | rfl | rfl <;> exact within_small hsm i e
    -- found
    refine ⟨_, rfl, x, numOf x, none, none, rfl, (hx.ext e28).arg, fun H9 s9 => ?_⟩
    have e29 := e28.trans (sameExt b s9)
    refine ⟨_, rfl, _, rfl, rfl, rfl, x, numOf x, some lo2, none, rfl, (hx.ext e29).arg, fun H10 s10 => ?_⟩
    have e210 := e29.trans (sameExt b s10)
    refine ⟨_, rfl, _, rfl, rfl, rfl, x, numOf x, none, some hi2, rfl, (hx.ext e210).arg, fun H11 s11 => ⟨sz 3, fun p7 n7 => ?_⟩⟩
    have e211 := e210.trans (sameExt b s11)
    have B11 := boxSame (boxSame (boxSame B8 s9) s10) s11
    have y7 := B11.ne n7
    have e212 := e211.trans (Ext.new (o := .lst [optV (within none none (numOf x)), optV (within (some lo2) none (numOf x)), optV (within none (some hi2) (numOf x))]) n7)
    have B12 := B11.new (o := .lst [optV (within none none (numOf x)), optV (within (some lo2) none (numOf x)), optV (within none (some hi2) (numOf x))]) n7
    refine ⟨_, rfl, .inl ⟨rfl, _, .inl (.inl upd_same)⟩, _, rfl, _, rfl, _, rfl, rfl, rfl, x, numOf x, some lo2, some hi2, rfl, (hx.ext e212).arg, fun H13 s13 => ?_⟩
    have hp7 := s13 _ _ (upd_same (H := H11) (a := p7) (o := .lst [optV (within none none (numOf x)), optV (within (some lo2) none (numOf x)), optV (within none (some hi2) (numOf x))]))
    refine ⟨p7, _, _, rfl, rfl, hp7, by show 3 < sizeLine; decide, ?_⟩
    have B13 := boxSame B12 s13
    have e213 := e212.trans (sameExt b s13)
    have n7b : H2 p7 = none := fresh_of e211 y7.symm n7
    have e214 : Ext b H2 _ := e213.mut (o := .lst ([within none none (numOf x), within (some lo2) none (numOf x), within none (some hi2) (numOf x), within (some lo2) (some hi2) (numOf x)].map optV)) n7b
    have B14 : Box _ b (n + 80) := B13.upd (o := .lst ([within none none (numOf x), within (some lo2) none (numOf x), within none (some hi2) (numOf x), within (some lo2) (some hi2) (numOf x)].map optV)) y7
    have hp14 : (upd H13 p7 (.lst ([within none none (numOf x), within (some lo2) none (numOf x), within none (some hi2) (numOf x), within (some lo2) (some hi2) (numOf x)].map optV))) p7 = _ := upd_same
    revert e214 B14 hp14
    show Ext b H2 (upd H13 p7 (.lst ([optV (within none none (numOf x)), optV (within (some lo2) none (numOf x)), optV (within none (some hi2) (numOf x))] ++ [optV (within (some lo2) (some hi2) (numOf x))]))) → Box (upd H13 p7 (.lst ([optV (within none none (numOf x)), optV (within (some lo2) none (numOf x)), optV (within none (some hi2) (numOf x))] ++ [optV (within (some lo2) (some hi2) (numOf x))]))) b (n + 80) → (upd H13 p7 (.lst ([optV (within none none (numOf x)), optV (within (some lo2) none (numOf x)), optV (within none (some hi2) (numOf x))] ++ [optV (within (some lo2) (some hi2) (numOf x))]))) p7 = _ → _
    generalize upd H13 p7 (.lst ([optV (within none none (numOf x)), optV (within (some lo2) none (numOf x)), optV (within none (some hi2) (numOf x))] ++ [optV (within (some lo2) (some hi2) (numOf x))])) = H14
    intro e214 B14 hp14
    -- due
    refine ⟨_, rfl, x, numOf x, none, none, rfl, (hx.ext e214).arg, fun H15 s15 => ?_⟩
    have e215 := e214.trans (sameExt b s15)
    refine ⟨_, rfl, _, rfl, x, numOf x, some lo2, none, rfl, (hx.ext e215).arg, fun H16 s16 => ?_⟩
    have e216 := e215.trans (sameExt b s16)
    refine ⟨_, rfl, _, rfl, x, numOf x, none, some hi2, rfl, (hx.ext e216).arg, fun H17 s17 => ⟨sz 3, fun p8 n8 => ?_⟩⟩
    have e217 := e216.trans (sameExt b s17)
    have B17 := boxSame (boxSame (boxSame B14 s15) s16) s17
    have hp17 := s17 _ _ (s16 _ _ (s15 _ _ hp14))
    have y8 := B17.ne n8
    have y78 : p7 ≠ p8 := ne_of_none hp17 n8
    have e218 := e217.trans (Ext.new (o := .lst [optV (within none none (numOf x)), optV (within (some lo2) none (numOf x)), optV (within none (some hi2) (numOf x))]) n8)
    have B18 := B17.new (o := .lst [optV (within none none (numOf x)), optV (within (some lo2) none (numOf x)), optV (within none (some hi2) (numOf x))]) n8
    have hp18 : (upd H17 p8 (.lst [optV (within none none (numOf x)), optV (within (some lo2) none (numOf x)), optV (within none (some hi2) (numOf x))])) p7 = some (.lst ([within none none (numOf x), within (some lo2) none (numOf x), within none (some hi2) (numOf x), within (some lo2) (some hi2) (numOf x)].map optV)) := by
      rw [upd_ne y78]
      exact hp17
    refine ⟨_, rfl, .inl ⟨rfl, _, .inl (.inl upd_same)⟩, _, rfl, _, rfl, _, rfl, x, numOf x, some lo2, some hi2, rfl, (hx.ext e218).arg, fun H19 s19 => ?_⟩
    have hp8 := s19 _ _ (upd_same (H := H17) (a := p8) (o := .lst [optV (within none none (numOf x)), optV (within (some lo2) none (numOf x)), optV (within none (some hi2) (numOf x))]))
    refine ⟨p8, _, _, rfl, rfl, hp8, by show 3 < sizeLine; decide, ?_⟩
    have B19 := boxSame B18 s19
    have e219 := e218.trans (sameExt b s19)
    have n8b : H2 p8 = none := fresh_of e217 y8.symm n8
    have e220 : Ext b H2 (upd H19 p8 (.lst ([optV (within none none (numOf x)), optV (within (some lo2) none (numOf x)), optV (within none (some hi2) (numOf x))] ++ [optV (within (some lo2) (some hi2) (numOf x))]))) := e219.mut n8b
    have B20 : Box (upd H19 p8 (.lst ([optV (within none none (numOf x)), optV (within (some lo2) none (numOf x)), optV (within none (some hi2) (numOf x))] ++ [optV (within (some lo2) (some hi2) (numOf x))]))) b (n + 80) := B19.upd y8
    have hp20 : (upd H19 p8 (.lst ([optV (within none none (numOf x)), optV (within (some lo2) none (numOf x)), optV (within none (some hi2) (numOf x))] ++ [optV (within (some lo2) (some hi2) (numOf x))]))) p7 = some (.lst ([within none none (numOf x), within (some lo2) none (numOf x), within none (some hi2) (numOf x), within (some lo2) (some hi2) (numOf x)].map optV)) := by
      rw [upd_ne y78]
      exact s19 _ _ hp18
    have hq20 : (upd H19 p8 (.lst ([optV (within none none (numOf x)), optV (within (some lo2) none (numOf x)), optV (within none (some hi2) (numOf x))] ++ [optV (within (some lo2) (some hi2) (numOf x))]))) p8 = some (.lst ([within none none (numOf x), within (some lo2) none (numOf x), within none (some hi2) (numOf x), within (some lo2) (some hi2) (numOf x)].map optV)) := upd_same
    revert e220 B20 hp20 hq20
    generalize upd H19 p8 (.lst ([optV (within none none (numOf x)), optV (within (some lo2) none (numOf x)), optV (within none (some hi2) (numOf x))] ++ [optV (within (some lo2) (some hi2) (numOf x))])) = H20
    intro e220 B20 hp20 hq20
    have oS := opts_show hrs (by show 4 ≤ 100; omega)
    refine ⟨_, rfl, ?_⟩
    refine ⟨_, _, rfl, .lst (.inl (.inl hp20)) (dp_opts _), oS.1, oS.2.1, oS.2.2, ?_⟩
    refine ⟨_, rfl, ?_⟩
    refine ⟨_, _, rfl, .lst (.inl (.inl hq20)) (dp_opts _), oS.1, oS.2.1, oS.2.2, ?_⟩
    refine ⟨rfl, _, rfl, ite2 (fun e => absurd e (by rw [decide_eq_true rfl]; decide)) (fun _ => ?_)⟩
    -- the line
    have E20 := E2.trans e220
    refine ⟨fun σ H' => Ext b H H' ∧ Box H' b (n + 180) ∧ ∃ (ln : V) (v5 v6 v7 : Option V), OddX b H' ln ∧ σ = [some (.ref b), some odd, some x, some (.int lo2), some (.int hi2), v5, v6, v7, some ln, none], ?_, fun σ H21 hM => ?_⟩
    · refine ⟨_, rfl, b, 5, _, rfl, by decide, by decide, by omega, B20, fun d2 H21 c1 c2 B21 e21 => ⟨_, _, rfl, rfl, _, rfl, ite2 (fun _ => ?_) (fun _ => ?_)⟩⟩
      · exact ⟨_, rfl, b, _, rfl, by omega, B21, fun z H22 hz hA B22 e22 => ⟨E20.trans (e21.trans e22), B22.mono (by omega), .str z, _, _, _, .inr (.inr (.inr (.inl ⟨z, rfl, by omega, hA⟩))), rfl⟩⟩
      · exact ⟨_, rfl, E20.trans e21, B21.mono (by omega), odd, _, _, _, hodd2.ext (e220.trans e21), rfl⟩
    obtain ⟨E21, B21, ln, v5, v6, v7, hln, rfl⟩ := hM
    refine ⟨_, rfl, ln, partsOf ln, rfl, hln.argW, ?_⟩
    have aw : ∀ H', Ext b H21 H' → ArgW K H' ln (partsOf ln) := fun H' e => (hln.ext e).argW
    cases hpo : partsOf ln with
    | none =>
      rw [hpo] at aw
      refine fun HA sA => ?_
      refine ⟨_, rfl, ?_⟩
      refine ⟨_, _, rfl, .non, rfl, none_show.1, none_show.2, ?_⟩
      have eA := sameExt b sA
      refine ⟨_, rfl, ln, none, rfl, aw _ eA, fun HB sB => ?_⟩
      have eB := eA.trans (sameExt b sB)
      refine ⟨_, _, rfl, .non, rfl, none_show.1, none_show.2, ?_⟩
      refine ⟨rfl, _, rfl, ite2 (fun e => absurd e (by rw [decide_eq_true rfl]; decide)) (fun _ => ?_)⟩
      refine ⟨_, rfl, rfl, _, rfl, ?_⟩
      refine ⟨_, rfl, ln, none, rfl, aw _ eB, fun HC sC => ?_⟩
      have eC := eB.trans (sameExt b sC)
      refine ⟨_, _, rfl, .non, rfl, none_show.1, none_show.2, ?_⟩
      refine ⟨_, rfl, ln, none, rfl, aw _ eC, fun HD sD => ?_⟩
      have eD := eC.trans (sameExt b sD)
      refine ⟨_, _, rfl, .non, rfl, none_show.1, none_show.2, ?_⟩
      refine ⟨rfl, ?_⟩
      rw [decide_eq_true rfl]
      exact q _ ((boxSame (boxSame (boxSame (boxSame B21 sA) sB) sC) sD).mono (by omega)) (E21.trans eD)
    | some ys =>
      have hys := hln.parts hpo
      have sS := strs_show hys.1 hys.2.1 hys.2.2
      rw [hpo] at aw
      refine fun pA HA nA sA hA => ?_
      refine ⟨_, rfl, ?_⟩
      refine ⟨_, _, rfl, .lst (.inl (.inl hA)) (dp_strs ys), sS.1, sS.2.1, sS.2.2, ?_⟩
      have eA := sameExt b sA
      have BA := boxSame B21 sA
      refine ⟨_, rfl, ln, some ys, rfl, aw _ eA, fun pB HB nB sB hB' => ?_⟩
      have eB := eA.trans (sameExt b sB)
      have BB := boxSame BA sB
      have hAB := sB _ _ hA
      have yA : b ≠ pA := B21.ne nA
      refine ⟨_, _, rfl, .lst (.inl (.inl hB')) (dp_strs ys), sS.1, sS.2.1, sS.2.2, ?_⟩
      refine ⟨rfl, _, rfl, ite2 (fun e => absurd e (by rw [decide_eq_true rfl]; decide)) (fun _ => ?_)⟩
      refine ⟨_, rfl, rfl, _, rfl, ?_⟩
      refine ⟨_, rfl, .inl ⟨rfl, _, .inl (.inl hAB)⟩, pA, _, _, rfl, rfl, hAB, ?_, ?_⟩
      · rw [List.length_map]
        exact small1000 (by omega)
      have eB2 : Ext b H21 (upd HB pA (.lst (ys.map V.str ++ [V.str ("late" : Str)]))) := eB.mut nA
      have BB2 : Box (upd HB pA (.lst (ys.map V.str ++ [V.str ("late" : Str)]))) b (n + 180) := BB.upd yA
      refine ⟨_, rfl, ln, some ys, rfl, aw _ eB2, fun pC HC nC sC hC => ?_⟩
      have eC := eB2.trans (sameExt b sC)
      refine ⟨_, _, rfl, .lst (.inl (.inl hC)) (dp_strs ys), sS.1, sS.2.1, sS.2.2, ?_⟩
      refine ⟨_, rfl, ln, some ys, rfl, aw _ eC, fun pD HD nD sD hD => ?_⟩
      have eD := eC.trans (sameExt b sD)
      refine ⟨_, _, rfl, .lst (.inl (.inl hD)) (dp_strs ys), sS.1, sS.2.1, sS.2.2, ?_⟩
      refine ⟨rfl, ?_⟩
      rw [decide_eq_true rfl]
      exact q _ ((boxSame (boxSame BB2 sC) sD).mono (by omega)) (E21.trans eD)
/-! ### the law -/
def spLaw (K : PySem.W.Frag) : Sp := fun vs H Q _ => ∃ (a : Addr) (ns : List Int), vs = [.ref a] ∧ SqL K H a (ns.map V.int) ∧ ns.length ≤ 63 ∧ ∀ H', Q (.bl true) H'
theorem seq_ext {H H' : Hp} {a b : Addr} {xs : List V} (h : SqL K H a xs) (hb : H b = none) (e : Ext b H H') : SqL K H' a xs := by
  rcases h with (h | ⟨o, h⟩) | h
  · exact .inl (.inl (e _ _ (ne_of_none h hb) h))
  · exact .inl (.inr ⟨o, e _ _ (ne_of_none h hb) h⟩)
  · exact .inr h
theorem ok_law {f : Addr} {fd : FuncData} (F : Fun K "law" "law" s_law f fd) (T : Txt mg) (claw_cell : Cal P w K mg base 1 "_law_cell" (spCell K) []) (claw_box : Cal P w K mg base 1 "_law_box" spBox []) (claw_right : CalG P w K mg base 3 "_law_right" spRight) :
    FnG P w K mg base CX0 4 f fd ["_law_script"] (spLaw K) := by
  have nd := sc_law.nd
  refine fnG F sc_law (fun vs H Q E h => ?_) (fun cdv A outer s H vs Q E hG hr h => ?_)
  · obtain ⟨_, _, rfl, _⟩ := h
    rfl
  · obtain ⟨a, ns, rfl, hS, hn, q⟩ := h
    refine ⟨_, (pss_cons (ps_for PassesOwn.never rfl (pi_range1 rfl T.m_range (pa_cons (pe_callB (call_max2 rfl) (by rfl) T.m_max PyProof.Rows.boot_max (pa_cons pe_int (pa_cons (pe_callB (call_min2 rfl) (by rfl) T.m_min PyProof.Rows.boot_min (pa_cons pe_int (pa_cons (pe_callB (lenK K) (by rfl) T.m_len PySem.boot_len (pa_cons (pv 0) pa_nil)) pa_nil))) pa_nil))) pa_nil)) (pg_name (i := 1) nd rfl (Or.inl rfl))
      (pss_cons (ps_set (i := 2) nd rfl (Or.inl rfl) (pe_c claw_box hr (by decide) rfl (pa_cons (pe_c claw_cell hr (by decide) rfl (pa_cons (pv 0) (pa_cons (pv 1) pa_nil))) pa_nil)))
      (pss_one (ps_for PassesOwn.never rfl (pi_range1 rfl T.m_range (pa_cons pe_int pa_nil)) (pg_name (i := 3) nd rfl (Or.inl rfl))
      (pss_one (ps_if (pt_not (pt_val (pe_cG claw_right hG hr (by decide) rfl (pa_cons (pv 2) pa_nil))))
      (pss_one (ps_ret pe_bl)) pss_nil))))))
      (pss_one (ps_ret pe_bl))), ?_⟩
    refine ⟨_, rfl, .inl ⟨a, _, rfl, .inl hS, _, _, rfl, _, _, rfl, _, rfl, ?_, ?_, ?_⟩⟩
    · split <;> split <;> omega
    · split <;> split <;> omega
    refine for_range (fun i σ H' => SqL K H' a (ns.map V.int) ∧ ∃ v1 v2 v3, σ = [some (.ref a), v1, v2, v3]) ⟨hS, _, _, _, rfl⟩ (fun i σ H1 hi h => ?_) (fun σ H1 h => q _)
    obtain ⟨hS1, v1, v2, v3, rfl⟩ := h
    refine ⟨_, rfl, _, rfl, a, ns, i, by rw [Int.zero_add]; rfl, hS1, fun x => ⟨x, rfl, fun p H2 np B2 e2 => ?_⟩⟩
    have E2 : Ext p H1 H2 := fun c o hc h => by rw [e2 c hc]; exact h
    refine ⟨8, rfl, by decide, by decide, for_range (fun j σ H' => Ext p H1 H' ∧ Box H' p (200 * j) ∧ ∃ v1 v3, σ = [some (.ref a), v1, some (.ref p), v3]) ⟨E2, B2.mono (by omega), _, _, rfl⟩ (fun j σ H3 hj h => ?_) (fun σ H3 h => ?_)⟩
    · obtain ⟨E3, B3, w1, w3, rfl⟩ := h
      have hj6 : (j : Int) < 8 := by
        have : j < 8 := hj
        omega
      exact ⟨_, rfl, p, _, rfl, by omega, B3, fun H4 B4 e4 => ⟨_, rfl, E3.trans e4, B4.mono (by omega), _, _, rfl⟩⟩
    · obtain ⟨E3, B3, w1, w3, rfl⟩ := h
      exact ⟨seq_ext hS1 np E3, _, _, _, rfl⟩
end
end Pk

set_option Elab.async false
set_option linter.all false
set_option maxRecDepth 100000
set_option maxHeartbeats 4000000
namespace Pk
open PySem PySem.Spec PyProof.Rows L2 Pu Pz
theorem all_mk {l : PySem.W.OpenLaw} {w : World} {K : PySem.W.Frag} {h : Heap} {mg : Str → Option Value} {fa f0 f1 f2 f3 f4 f5 f6 f7 f8 f9 f10 f11 : Addr} {t_DIGITS t_MOST_DIGITS : Tok} (X : K.In h) (G : h.Ns mainGlobals mg) (hfa : mg "law" = some (.ref fa))
    {od0 an0 : Option Addr} {sl0 : Array (Option Value)} {oc0 kV0 dc0 pm0 cd0 ct0 : Value}
    {od1 an1 : Option Addr} {sl1 : Array (Option Value)} {oc1 dc1 pm1 cd1 ct1 : Value} {kD1 : Addr}
    {od2 an2 : Option Addr} {sl2 : Array (Option Value)} {oc2 kV2 dc2 pm2 cd2 ct2 : Value}
    {od3 an3 : Option Addr} {sl3 : Array (Option Value)} {oc3 kV3 dc3 pm3 cd3 ct3 : Value}
    {od4 an4 : Option Addr} {sl4 : Array (Option Value)} {oc4 kV4 dc4 pm4 cd4 ct4 : Value}
    {od5 an5 : Option Addr} {sl5 : Array (Option Value)} {oc5 kV5 dc5 pm5 cd5 ct5 : Value}
    {od6 an6 : Option Addr} {sl6 : Array (Option Value)} {oc6 kV6 dc6 pm6 cd6 ct6 : Value}
    {od7 an7 : Option Addr} {sl7 : Array (Option Value)} {oc7 kV7 dc7 pm7 cd7 ct7 : Value}
    {od8 an8 : Option Addr} {sl8 : Array (Option Value)} {oc8 kV8 dc8 pm8 cd8 ct8 : Value}
    {od9 an9 : Option Addr} {sl9 : Array (Option Value)} {oc9 kV9 dc9 pm9 cd9 ct9 : Value}
    {od10 an10 : Option Addr} {sl10 : Array (Option Value)} {oc10 kV10 dc10 pm10 cd10 ct10 : Value}
    {od11 an11 : Option Addr} {sl11 : Array (Option Value)} {oc11 kV11 dc11 pm11 cd11 ct11 : Value}
    (a0 : PySem.W.nsIn K mainGlobals "is_decimal" = some (some (.ref f0)))
    (l0 : K.lookup f0 = some ⟨oc0, od0, .func (PySem.W.fnOf "is_decimal" "is_decimal" (defArgs s_is_decimal) (defBody s_is_decimal) (defScope s_is_decimal) .none kV0 dc0 pm0 an0 cd0 ct0), sl0⟩)
    (c0 : PySem.W.codeIn K cd0 "is_decimal" = true) (k0 : PySem.W.keepIn K (.ref f0) = true)
    (a1 : PySem.W.nsIn K mainGlobals "parse_integer" = some (some (.ref f1)))
    (l1 : K.lookup f1 = some ⟨oc1, od1, .func (PySem.W.fnOf "parse_integer" "parse_integer" (defArgs s_parse_integer) (defBody s_parse_integer) (defScope s_parse_integer) .none (.ref kD1) dc1 pm1 an1 cd1 ct1), sl1⟩)
    (c1 : PySem.W.codeIn K cd1 "parse_integer" = true) (k1 : PySem.W.keepIn K (.ref f1) = true)
    (w1_low : PySem.W.nsIn K kD1 "low" = some (some .none))
    (w1_high : PySem.W.nsIn K kD1 "high" = some (some .none))
    (a2 : PySem.W.nsIn K mainGlobals "split_words" = some (some (.ref f2)))
    (l2 : K.lookup f2 = some ⟨oc2, od2, .func (PySem.W.fnOf "split_words" "split_words" (defArgs s_split_words) (defBody s_split_words) (defScope s_split_words) .none kV2 dc2 pm2 an2 cd2 ct2), sl2⟩)
    (c2 : PySem.W.codeIn K cd2 "split_words" = true) (k2 : PySem.W.keepIn K (.ref f2) = true)
    (a3 : PySem.W.nsIn K mainGlobals "_law_cell" = some (some (.ref f3)))
    (l3 : K.lookup f3 = some ⟨oc3, od3, .func (PySem.W.fnOf "_law_cell" "_law_cell" (defArgs s_law_cell) (defBody s_law_cell) (defScope s_law_cell) .none kV3 dc3 pm3 an3 cd3 ct3), sl3⟩)
    (c3 : PySem.W.codeIn K cd3 "_law_cell" = true) (k3 : PySem.W.keepIn K (.ref f3) = true)
    (a4 : PySem.W.nsIn K mainGlobals "_law_box" = some (some (.ref f4)))
    (l4 : K.lookup f4 = some ⟨oc4, od4, .func (PySem.W.fnOf "_law_box" "_law_box" (defArgs s_law_box) (defBody s_law_box) (defScope s_law_box) .none kV4 dc4 pm4 an4 cd4 ct4), sl4⟩)
    (c4 : PySem.W.codeIn K cd4 "_law_box" = true) (k4 : PySem.W.keepIn K (.ref f4) = true)
    (a5 : PySem.W.nsIn K mainGlobals "_law_take" = some (some (.ref f5)))
    (l5 : K.lookup f5 = some ⟨oc5, od5, .func (PySem.W.fnOf "_law_take" "_law_take" (defArgs s_law_take) (defBody s_law_take) (defScope s_law_take) .none kV5 dc5 pm5 an5 cd5 ct5), sl5⟩)
    (c5 : PySem.W.codeIn K cd5 "_law_take" = true) (k5 : PySem.W.keepIn K (.ref f5) = true)
    (a6 : PySem.W.nsIn K mainGlobals "_law_digits" = some (some (.ref f6)))
    (l6 : K.lookup f6 = some ⟨oc6, od6, .func (PySem.W.fnOf "_law_digits" "_law_digits" (defArgs s_law_digits) (defBody s_law_digits) (defScope s_law_digits) .none kV6 dc6 pm6 an6 cd6 ct6), sl6⟩)
    (c6 : PySem.W.codeIn K cd6 "_law_digits" = true) (k6 : PySem.W.keepIn K (.ref f6) = true)
    (a7 : PySem.W.nsIn K mainGlobals "_law_due" = some (some (.ref f7)))
    (l7 : K.lookup f7 = some ⟨oc7, od7, .func (PySem.W.fnOf "_law_due" "_law_due" (defArgs s_law_due) (defBody s_law_due) (defScope s_law_due) .none kV7 dc7 pm7 an7 cd7 ct7), sl7⟩)
    (c7 : PySem.W.codeIn K cd7 "_law_due" = true) (k7 : PySem.W.keepIn K (.ref f7) = true)
    (a8 : PySem.W.nsIn K mainGlobals "_law_line" = some (some (.ref f8)))
    (l8 : K.lookup f8 = some ⟨oc8, od8, .func (PySem.W.fnOf "_law_line" "_law_line" (defArgs s_law_line) (defBody s_law_line) (defScope s_law_line) .none kV8 dc8 pm8 an8 cd8 ct8), sl8⟩)
    (c8 : PySem.W.codeIn K cd8 "_law_line" = true) (k8 : PySem.W.keepIn K (.ref f8) = true)
    (a9 : PySem.W.nsIn K mainGlobals "_law_words" = some (some (.ref f9)))
    (l9 : K.lookup f9 = some ⟨oc9, od9, .func (PySem.W.fnOf "_law_words" "_law_words" (defArgs s_law_words) (defBody s_law_words) (defScope s_law_words) .none kV9 dc9 pm9 an9 cd9 ct9), sl9⟩)
    (c9 : PySem.W.codeIn K cd9 "_law_words" = true) (k9 : PySem.W.keepIn K (.ref f9) = true)
    (a10 : PySem.W.nsIn K mainGlobals "_law_right" = some (some (.ref f10)))
    (l10 : K.lookup f10 = some ⟨oc10, od10, .func (PySem.W.fnOf "_law_right" "_law_right" (defArgs s_law_right) (defBody s_law_right) (defScope s_law_right) .none kV10 dc10 pm10 an10 cd10 ct10), sl10⟩)
    (c10 : PySem.W.codeIn K cd10 "_law_right" = true) (k10 : PySem.W.keepIn K (.ref f10) = true)
    (a11 : PySem.W.nsIn K mainGlobals "law" = some (some (.ref f11)))
    (l11 : K.lookup f11 = some ⟨oc11, od11, .func (PySem.W.fnOf "law" "law" (defArgs s_law) (defBody s_law) (defScope s_law) .none kV11 dc11 pm11 an11 cd11 ct11), sl11⟩)
    (c11 : PySem.W.codeIn K cd11 "law" = true) (k11 : PySem.W.keepIn K (.ref f11) = true)
    (z_abs : PySem.W.nsIn K mainGlobals "abs" = some none)
    (z_all : PySem.W.nsIn K mainGlobals "all" = some none)
    (z_int : PySem.W.nsIn K mainGlobals "int" = some none)
    (z_isinstance : PySem.W.nsIn K mainGlobals "isinstance" = some none)
    (z_len : PySem.W.nsIn K mainGlobals "len" = some none)
    (z_max : PySem.W.nsIn K mainGlobals "max" = some none)
    (z_min : PySem.W.nsIn K mainGlobals "min" = some none)
    (z_range : PySem.W.nsIn K mainGlobals "range" = some none)
    (z_repr : PySem.W.nsIn K mainGlobals "repr" = some none)
    (z_str : PySem.W.nsIn K mainGlobals "str" = some none)
    (z_DIGITS : PySem.W.nsIn K mainGlobals "DIGITS" = some (some (.str ("0123456789" : Str) t_DIGITS)))
    (z_MOST_DIGITS : PySem.W.nsIn K mainGlobals "MOST_DIGITS" = some (some (.int 30 t_MOST_DIGITS))) :
    ∃ fd : FuncData, (∀ (s : Shared) (v : Value), BindsTo s fd ⟨[v], []⟩ [("_law_script", v)]) ∧ ∀ base : Heap, K.In base → base.Ns mainGlobals mg → FnG l.prog w K mg base CX0 4 fa fd ["_law_script"] (spLaw K) := by
  have e := hfa.symm.trans (PySem.W.mg_of X G a11)
  cases e
  have T : Txt mg := ⟨PySem.W.mg_none_of X G z_abs, PySem.W.mg_none_of X G z_all, PySem.W.mg_none_of X G z_int, PySem.W.mg_none_of X G z_isinstance, PySem.W.mg_none_of X G z_len, PySem.W.mg_none_of X G z_max, PySem.W.mg_none_of X G z_min, PySem.W.mg_none_of X G z_range, PySem.W.mg_none_of X G z_repr, PySem.W.mg_none_of X G z_str, ⟨_, PySem.W.mg_of X G z_DIGITS⟩, ⟨_, PySem.W.mg_of X G z_MOST_DIGITS⟩⟩
  have F0 := fun_mk (st := s_is_decimal) l0 c0 k0
  have b0 := F0.binds (ps := ["text"]) fun _ _ _ _ _ _ us hl => match us, hl with | [_], _ => rfl
  have F1 : FunD K "parse_integer" "parse_integer" (defArgs s_parse_integer) (defBody s_parse_integer) (defScope s_parse_integer) [] [("low", .non), ("high", .non)] f1 _ := ⟨⟨oc1, od1, .none, .ref kD1, dc1, pm1, an1, cd1, ct1, sl1, rfl, l1, c1, .inl ⟨rfl, rfl⟩, .inr ⟨kD1, rfl, fun q hq => by
    simp only [List.mem_cons, List.not_mem_nil, or_false] at hq
    rcases hq with rfl | rfl
    · exact ⟨.none, w1_low, rfl⟩
    · exact ⟨.none, w1_high, rfl⟩⟩⟩, k1⟩
  have F2 := fun_mk (st := s_split_words) l2 c2 k2
  have b2 := F2.binds (ps := ["text"]) fun _ _ _ _ _ _ us hl => match us, hl with | [_], _ => rfl
  have F3 := fun_mk (st := s_law_cell) l3 c3 k3
  have b3 := F3.binds (ps := ["_law_script", "_law_k"]) fun _ _ _ _ _ _ us hl => match us, hl with | [_, _], _ => rfl
  have F4 := fun_mk (st := s_law_box) l4 c4 k4
  have b4 := F4.binds (ps := ["_law_cell_here"]) fun _ _ _ _ _ _ us hl => match us, hl with | [_], _ => rfl
  have F5 := fun_mk (st := s_law_take) l5 c5 k5
  have b5 := F5.binds (ps := ["_law_box_here", "_law_many"]) fun _ _ _ _ _ _ us hl => match us, hl with | [_, _], _ => rfl
  have F6 := fun_mk (st := s_law_digits) l6 c6 k6
  have b6 := F6.binds (ps := ["_law_box_here"]) fun _ _ _ _ _ _ us hl => match us, hl with | [_], _ => rfl
  have F7 := fun_mk (st := s_law_due) l7 c7 k7
  have b7 := F7.binds (ps := ["_law_text", "_law_floor", "_law_roof"]) fun _ _ _ _ _ _ us hl => match us, hl with | [_, _, _], _ => rfl
  have F8 := fun_mk (st := s_law_line) l8 c8 k8
  have b8 := F8.binds (ps := ["_law_box_here"]) fun _ _ _ _ _ _ us hl => match us, hl with | [_], _ => rfl
  have F9 := fun_mk (st := s_law_words) l9 c9 k9
  have b9 := F9.binds (ps := ["_law_text"]) fun _ _ _ _ _ _ us hl => match us, hl with | [_], _ => rfl
  have F10 := fun_mk (st := s_law_right) l10 c10 k10
  have b10 := F10.binds (ps := ["_law_box_here"]) fun _ _ _ _ _ _ us hl => match us, hl with | [_], _ => rfl
  have F11 := fun_mk (st := s_law) l11 c11 k11
  refine ⟨PySem.W.fnOf "law" "law" (defArgs s_law) (defBody s_law) (defScope s_law) .none kV11 dc11 pm11 an11 cd11 ct11, fun s v => .of_eq rfl, fun base _ _ => ?_⟩
  have c0 := Cal.mk0 (ok_decimal (P := l.prog) (w := w) (K := K) (base := base) F0 T) (PySem.W.mg_of X G a0) F0.kp b0
  have G1 := ok_parse (P := l.prog) (w := w) (base := base) F1 T c0
  obtain ⟨ds, rd, bd⟩ := F1.binds0 (ps := ["text", "low", "high"]) 1 (by simp) rfl fun D doc pm an cdv ct us ks h1 h2 => match us, ks, h1, h2 with
    | [_], [_, _], _, _ => ⟨_, _, _, _, _, _, rfl, rfl, _, _, _, _, _, _, rfl, rfl, rfl⟩
  have c1 : Cal l.prog w K mg base 2 "parse_integer" (spParse K) [.non, .non] := ⟨f1, _, _, ds, G1, PySem.W.mg_of X G a1, F1.kp, bd, rd⟩
  obtain ⟨m1, kb1⟩ := kb0 F1 (ps := ["text", "low", "high"]) 1 ["low"] [("high", .non)] (fun us mv ws => us ++ (ws ++ mv)) (by simp) (fun q hq => by simp only [List.mem_cons, List.not_mem_nil, or_false] at hq; rw [hq]; simp) (fun r1 r2 r3 => r1.append (r3.append r2)) fun D doc pm an cdv ct us mv ws h1 h2 h3 => match us, mv, ws, h1, h2, h3 with
    | [_], [_], [_], _, _, _ => ⟨_, _, _, _, _, _, rfl, rfl, rfl⟩
  obtain ⟨m2, kb2⟩ := kb0 F1 (ps := ["text", "low", "high"]) 1 ["high"] [("low", .non)] (fun us mv ws => us ++ (mv ++ ws)) (by simp) (fun q hq => by simp only [List.mem_cons, List.not_mem_nil, or_false] at hq; rw [hq]; simp) (fun r1 r2 r3 => r1.append (r2.append r3)) fun D doc pm an cdv ct us mv ws h1 h2 h3 => match us, mv, ws, h1, h2, h3 with
    | [_], [_], [_], _, _, _ => ⟨_, _, _, _, _, _, rfl, rfl, rfl⟩
  obtain ⟨m3, kb3⟩ := kb0 F1 (ps := ["text", "low", "high"]) 1 ["high", "low"] [] (fun us mv ws => us ++ ws.reverse) (by simp) (fun q hq => nomatch hq) (fun r1 r2 r3 => r1.append r3.reverse) fun D doc pm an cdv ct us mv ws h1 h2 h3 => match us, mv, ws, h1, h2, h3 with
    | [_], [], [_, _], _, _, _ => rfl
  have c1l : CalN l.prog w K mg base 2 "parse_integer" 1 ["low"] (fun vs zs => vs ++ (zs ++ [.non])) (spParse K) := ⟨f1, _, _, _, G1, PySem.W.mg_of X G a1, F1.kp, kb1⟩
  have c1h : CalN l.prog w K mg base 2 "parse_integer" 1 ["high"] (fun vs zs => vs ++ ([.non] ++ zs)) (spParse K) := ⟨f1, _, _, _, G1, PySem.W.mg_of X G a1, F1.kp, kb2⟩
  have c1hl : CalN l.prog w K mg base 2 "parse_integer" 1 ["high", "low"] (fun vs zs => vs ++ zs.reverse) (spParse K) := ⟨f1, _, _, _, G1, PySem.W.mg_of X G a1, F1.kp, kb3⟩
  have c2 := Cal.mk0 (ok_split (P := l.prog) (w := w) (base := base) F2 T) (PySem.W.mg_of X G a2) F2.kp b2
  have c3 := Cal.mk0 (ok_cell (P := l.prog) (w := w) (base := base) F3 T) (PySem.W.mg_of X G a3) F3.kp b3
  have c4 := Cal.mk0 (ok_box (P := l.prog) (w := w) (base := base) F4 T) (PySem.W.mg_of X G a4) F4.kp b4
  have c5 := Cal.mk0 (ok_take (P := l.prog) (w := w) (K := K) (base := base) F5 T) (PySem.W.mg_of X G a5) F5.kp b5
  have c6 := Cal.mk0 (ok_digits (P := l.prog) (w := w) (base := base) F6 T c5) (PySem.W.mg_of X G a6) F6.kp b6
  have c7 := Cal.mk0 (ok_due (P := l.prog) (w := w) (base := base) F7 T) (PySem.W.mg_of X G a7) F7.kp b7
  have c8 := Cal.mk0 (ok_line (P := l.prog) (w := w) (base := base) F8 T c5) (PySem.W.mg_of X G a8) F8.kp b8
  have c9 := Cal.mk0 (ok_words (P := l.prog) (w := w) (base := base) F9 T) (PySem.W.mg_of X G a9) F9.kp b9
  have c10 := CalG.mk0 (ok_right (P := l.prog) (w := w) (base := base) F10 T c5 c6 c8 c7 c9 c2 c1 c1l c1h c1hl) (PySem.W.mg_of X G a10) F10.kp b10
  exact ok_law F11 T c3 c4 c10
end Pk
open PySem PySem.W PyProof.Rows
set_option maxHeartbeats 0 in
theorem PySem.Challenge.cw_pileups_k02_numbers_and_words_of_texts_holds : PySem.Challenge.rw_pileups_k02_numbers_and_words_of_texts.Holds := by
  w_on; o_law; k_head; (case hw => w_witness2)
  k_fill
  refine Pu.walk_G (l := PySem.Challenge.rw_pileups_k02_numbers_and_words_of_texts) (n := 63) (k := 4) (x := "_law_script") (sp := fun w => Pk.spLaw _) rfl (by decide) rfl ⟨rfl, by decide, by decide⟩ (fun w h Y => PySem.W.kIn_of Y) ?F (fun _ _ a ns hl hS => ⟨a, ns, rfl, hS, hl, fun _ => rfl⟩)
  case F =>
    intro w mg fa h KX G hmg
    refine' Pk.all_mk KX G hmg ?a0 ?l0 ?c0 ?k0 ?a1 ?l1 ?c1 ?k1 ?w1_low ?w1_high ?a2 ?l2 ?c2 ?k2 ?a3 ?l3 ?c3 ?k3 ?a4 ?l4 ?c4 ?k4 ?a5 ?l5 ?c5 ?k5 ?a6 ?l6 ?c6 ?k6 ?a7 ?l7 ?c7 ?k7 ?a8 ?l8 ?c8 ?k8 ?a9 ?l9 ?c9 ?k9 ?a10 ?l10 ?c10 ?k10 ?a11 ?l11 ?c11 ?k11 ?z_abs ?z_all ?z_int ?z_isinstance ?z_len ?z_max ?z_min ?z_range ?z_repr ?z_str ?z_DIGITS ?z_MOST_DIGITS
    (case a0 => k_is); (case l0 => k_is); (case c0 => k_is); (case k0 => k_is); (case a1 => k_is); (case l1 => k_is); (case c1 => k_is); (case k1 => k_is); (case w1_low => k_is); (case w1_high => k_is); (case a2 => k_is); (case l2 => k_is); (case c2 => k_is); (case k2 => k_is); (case a3 => k_is); (case l3 => k_is); (case c3 => k_is); (case k3 => k_is); (case a4 => k_is); (case l4 => k_is); (case c4 => k_is); (case k4 => k_is); (case a5 => k_is); (case l5 => k_is); (case c5 => k_is); (case k5 => k_is); (case a6 => k_is); (case l6 => k_is); (case c6 => k_is); (case k6 => k_is); (case a7 => k_is); (case l7 => k_is); (case c7 => k_is); (case k7 => k_is); (case a8 => k_is); (case l8 => k_is); (case c8 => k_is); (case k8 => k_is); (case a9 => k_is); (case l9 => k_is); (case c9 => k_is); (case k9 => k_is); (case a10 => k_is); (case l10 => k_is); (case c10 => k_is); (case k10 => k_is); (case a11 => k_is); (case l11 => k_is); (case c11 => k_is); (case k11 => k_is); (case z_abs => k_is); (case z_all => k_is); (case z_int => k_is); (case z_isinstance => k_is); (case z_len => k_is); (case z_max => k_is); (case z_min => k_is); (case z_range => k_is); (case z_repr => k_is); (case z_str => k_is); (case z_DIGITS => k_is); (case z_MOST_DIGITS => k_is)
