import PyProof.Rows.All
import Wide.All
import OpenK.AllK
import Wide.FinOn
import HandS.ForMost
import HandS.IsInst
import HandS.Walk
import HandS.Wide
import HandS.Ends
import PyProof.ReprRoads
import HandS.Defaults
import KE.KExcInit
import HandS.ForExc
import HandS.TryMany
import PyProof.DictUpdate
import PyProof.DictDisplay
import HandS.Dict
import KE.GoesEnum
import HandS.DictComp
import HandS.OwnIter
import HandS.NamedTupGet
import HandS.Style
import HandS.ListEq
import HandS.DictEq
import PyProof.NeKinds
import HandS.DeepEq
import HandS.MakeKwOnly
import HandS.NoneIn
import HandS.ListItems
import HandS.Conv
import KE.KExcLine
import PySem.Challenge.RW_pileups_k24_moments_refused
set_option Elab.async false
set_option linter.all false
set_option maxRecDepth 100000
set_option maxHeartbeats 2000000
/-! short rules for what the texts of this program write, whatever the kinds of the values are -/
namespace Pu
open PySem PySem.Spec PyProof.Rows L2
/-! ### rules with several readings -/
section
variable {X : Cx}
theorem pe_gi {x : Str} {pos : Pos} {n : Int} (hg : Gl X x) (hm : ∃ t, X.mg x = some (.int n t)) (hd : (x == ("__debug__" : Str)) = false := by decide) : PE X (.Name x pos) (tC (.int n)) := by
  obtain ⟨t, h⟩ := hm
  exact pe_glob hg h ⟨_, rfl⟩ hd
theorem pe_gs {x : Str} {pos : Pos} {z : Str} (hg : Gl X x) (hm : ∃ t, X.mg x = some (.str z t)) (hd : (x == ("__debug__" : Str)) = false := by decide) : PE X (.Name x pos) (tC (.str z)) := by
  obtain ⟨t, h⟩ := hm
  exact pe_glob hg h ⟨_, rfl⟩ hd
/-- a + b: ints, or texts, or lists -/
theorem oAdd : OpR X (binaryOp .Add) (fun x y H Q => rI0 (fun i j => .int (i + j)) x y H Q ∨ ((∃ i j, x = .str i ∧ y = .str j ∧ i.length + j.length ≤ sizeLine ∧ Q (.str (i ++ j)) H) ∨ rCat x y H Q)) := op_add.or (op_add_str.or op_cat)
/-! the same with the written part by name: inside a comprehension the context is another, K is not -/
theorem oIn (K : PySem.W.Frag) (h : X.K = K := by rfl) : OpR X (compareOp .In) (fun x y H Q => (∃ (c : Nat) (z : Str), x = .str ⟨#[c]⟩ ∧ y = .str z ∧ Q (.bl (decide (c ∈ z.cps.toList))) H) ∨ rIn K false x y H Q) := by
  subst h
  exact op_in_sign.or op_in_seq
theorem oNotIn (K : PySem.W.Frag) (h : X.K = K := by rfl) : OpR X (compareOp .NotIn) (fun x y H Q => (∃ (c : Nat) (z : Str), x = .str ⟨#[c]⟩ ∧ y = .str z ∧ Q (.bl (!decide (c ∈ z.cps.toList))) H) ∨ rIn K true x y H Q) := by
  subst h
  exact op_notIn_sign.or op_notIn_seq
theorem ixL (K : PySem.W.Frag) (h : X.K = K := by rfl) : IxR X (rIxL K) := by
  subst h
  exact ix_list
theorem ixT (K : PySem.W.Frag) (h : X.K = K := by rfl) : IxR X (rIxT K) := by
  subst h
  exact ix_tup
theorem slL (K : PySem.W.Frag) (h : X.K = K := by rfl) : SlR X (rSlL K) := by
  subst h
  exact sl_list
theorem slT (K : PySem.W.Frag) (h : X.K = K := by rfl) : SlR X (rSlT K) := by
  subst h
  exact sl_tup
theorem isiK (K : PySem.W.Frag) (h : X.K = K := by rfl) : CallR X (.builtin "isinstance") (rIsi K) := by
  subst h
  exact call_isi
/-- len(x): a list, a tuple, or a text -/
theorem lenK (K : PySem.W.Frag) (h : X.K = K := by rfl) : CallR X (.builtin "len") (fun xs H Q => (∃ p ys, xs = [.ref p] ∧ (SqL K H p ys ∨ SqT K H p ys) ∧ Q (.int ys.length) H) ∨ ∃ z, xs = [.str z] ∧ z.length ≤ sizeLine ∧ Q (.int z.length) H) := by
  subst h
  exact call_len_seq.or call_len_str
end
/-! ### a def of the module, as its callers see it -/
structure Cal (P : Program) (w : World) (K : PySem.W.Frag) (mg : Str → Option Value) (base : Heap) (k : Nat) (x : Str) (sp : Sp) (dvs : List V) : Prop where
  ex : ∃ (f : Addr) (fd : FuncData) (ps : List Str) (ds : List Value), FnOk P w K mg base CX0 k f fd ps sp ∧ mg x = some (.ref f) ∧ PySem.W.keepIn K (.ref f) = true ∧ Binds K fd ps ds ∧ Vals dvs ds
theorem Cal.mk0 {P : Program} {w : World} {K : PySem.W.Frag} {mg : Str → Option Value} {base : Heap} {k : Nat} {x : Str} {sp : Sp} {f : Addr} {fd : FuncData} {ps : List Str} (F : FnOk P w K mg base CX0 k f fd ps sp) (hm : mg x = some (.ref f)) (kp : PySem.W.keepIn K (.ref f) = true) (b : Binds K fd ps []) : Cal P w K mg base k x sp [] :=
  ⟨f, fd, ps, [], F, hm, kp, b, .nil⟩
theorem pe_c {X : Cx} {k j : Nat} {x : Str} {sp : Sp} {dvs : List V} {e : Expr} {es : List Expr} {t : TA} {p pos : Pos} (c : Cal X.prog X.w X.K X.mg X.base k x sp dvs) (hr : Room j X.A) (hk : k ≤ j) (hg : Gl X x) (ha : PA X (e :: es) t)
    (hdb : (x == ("__debug__" : Str)) = false := by decide) (he : starEach (e :: es) X.env = (false, eval e X.env) :: starEach es X.env := by rfl) (hpl : (backTo pos (starEach es X.env)).any (·.1) = false := by rfl) :
    PE X (.Call (.Name x p) (e :: es) [] pos) (tCall sp dvs E0 t) := by
  obtain ⟨f, fd, ps, ds, F, hm, kp, b, d⟩ := c.ex
  exact pe_call F (hr.mono hk) hg hm kp b d pass0 ha hdb he hpl
/-! ### a statement, then the rest, with a word of ours between them -/
def tCut (t u : TS) : TS := fun D σ H => ∃ Mid : L2.St → Hp → Prop, t { D with nx := Mid } σ H ∧ ∀ σ' H', Mid σ' H' → u D σ' H'
theorem pss_cut {X : Cx} {st : Stmt} {rest : List Stmt} {t u : TS} (h1 : PS X st t) (h2 : PSs X rest u) : PSs X (st :: rest) (tCut t u) := by
  refine ⟨fun pins s σ H D I ⟨Mid, hm, hu⟩ => ?_⟩
  refine wpAny_execs_cons (thn (h1.run pins s σ H { D with nx := Mid } I hm) fun f s1 q => ?_)
  cases f with
  | next =>
    obtain ⟨σ', H', I', q⟩ := q
    exact h2.run pins s1 σ' H' D I' (hu σ' H' q)
  | ret v => exact q
  | brk => exact q
  | cont => exact q
theorem same_upd {H : Hp} {p : Addr} {o : HO} (h : H p = none) : Same H (upd H p o) := fun b x e => by
  rw [upd_ne (ne_of_none e h)]
  exact e
/-! ### heaps that only grow, but for one object -/
def Ext (b : Addr) (H H' : Hp) : Prop := ∀ a o, a ≠ b → H a = some o → H' a = some o
theorem Ext.refl {b : Addr} (H : Hp) : Ext b H H := fun _ _ _ h => h
theorem Ext.trans {b : Addr} {H H1 H2 : Hp} (e : Ext b H H1) (f : Ext b H1 H2) : Ext b H H2 := fun a o n h => f a o n (e a o n h)
theorem Ext.new {b p : Addr} {H : Hp} {o : HO} (h : H p = none) : Ext b H (upd H p o) := fun a o _ e => by
  rw [upd_ne (ne_of_none e h)]
  exact e
theorem Ext.at {b : Addr} {H : Hp} {o : HO} : Ext b H (upd H b o) := fun a u n e => by
  rw [upd_ne n]
  exact e
theorem Ext.mut {b p : Addr} {H H' : Hp} {o : HO} (e : Ext b H H') (h : H p = none) : Ext b H (upd H' p o) := fun a u n ha => by
  rw [upd_ne (ne_of_none ha h)]
  exact e a u n ha
/-! ### the three numbers that a law draws from -/
def Box (H : Hp) (b : Addr) (n : Int) : Prop := ∃ x y z : Int, H b = some (.lst [.int x, .int y, .int z]) ∧ 0 ≤ x ∧ 0 ≤ y ∧ y < 2147483648 ∧ 0 ≤ z ∧ z ≤ n
theorem Box.new {H : Hp} {b p : Addr} {n : Int} {o : HO} (h : Box H b n) (hp : H p = none) : Box (upd H p o) b n := by
  obtain ⟨x, y, z, e, r⟩ := h
  exact ⟨x, y, z, by rw [upd_ne (ne_of_none e hp)]; exact e, r⟩
theorem Box.upd {H : Hp} {b p : Addr} {n : Int} {o : HO} (h : Box H b n) (hp : b ≠ p) : Box (upd H p o) b n := by
  obtain ⟨x, y, z, e, r⟩ := h
  exact ⟨x, y, z, by rw [upd_ne hp]; exact e, r⟩
theorem Box.ne {H : Hp} {b p : Addr} {n : Int} (h : Box H b n) (hp : H p = none) : b ≠ p := by
  obtain ⟨x, y, z, e, r⟩ := h
  exact ne_of_none e hp
theorem Box.mono {H : Hp} {b : Addr} {n m : Int} (h : Box H b n) (hp : n ≤ m) : Box H b m := by
  obtain ⟨x, y, z, e, r1, r2, r3, r4, r5⟩ := h
  exact ⟨x, y, z, e, r1, r2, r3, r4, by omega⟩
theorem sz (n : Nat) (h : n ≤ 100000 := by first | decide | omega) : n ≤ sizeLine := Nat.le_trans h (by decide)
/-- draws a number below m -/
def spTake : Sp := fun vs H Q _ => ∃ (b : Addr) (m n : Int), vs = [.ref b, .int m] ∧ 0 < m ∧ m < 2 ^ 140 ∧ n ≤ 1000000 ∧ Box H b n ∧
  ∀ d H', 0 ≤ d → d < m → Box H' b (n + 1) → Ext b H H' → Q (.int d) H'
def spCell (K : PySem.W.Frag) : Sp := fun vs H Q _ => ∃ (a : Addr) (ns : List Int) (k : Nat), vs = [.ref a, .int k] ∧ SqL K H a (ns.map V.int) ∧ ∀ i, Q (.int i) H
def spBox : Sp := fun vs H Q _ => ∃ i : Int, vs = [.int i] ∧ ∀ p H', H p = none → Box H' p 0 → (∀ a, a ≠ p → H' a = H a) → Q (.ref p) H'
end Pu

set_option Elab.async false
set_option linter.all false
set_option maxRecDepth 100000
set_option maxHeartbeats 2000000
namespace Pu
open PySem PySem.Spec PyProof.Rows L2
/-! ### an item at a drawn place -/
theorem pickN {α : Type} {xs : List α} {i : Int} (h0 : 0 ≤ i) (h1 : i < xs.length) : ∃ v, atI xs i = some v ∧ v ∈ xs := by
  obtain ⟨k, rfl⟩ := Int.eq_ofNat_of_zero_le h0
  have hk : k < xs.length := by omega
  exact ⟨xs[k], atI_nat (List.getElem?_eq_getElem hk), List.getElem_mem hk⟩
/-! ### texts: lengths -/
theorem len_app (x y : Str) : (x ++ y).length = x.length + y.length := PySem.Str.length_append x y
theorem len_cut (z : Str) (lo hi : Option Int) : (cutS z lo hi).length ≤ z.length := by
  show (List.toArray _).size ≤ z.cps.size
  rw [List.size_toArray, List.length_take, List.length_drop, Array.length_toList]
  show min _ (z.cps.size - _) ≤ z.cps.size
  omega
theorem sum_app (xs ys : List Nat) : (xs ++ ys).sum = xs.sum + ys.sum := List.sum_append
theorem len_join0 : ∀ ys : List Str, (Txt.join ("" : Str) ys).length = (ys.map (·.length)).sum := by
  intro ys
  rw [show Txt.join ("" : Str) ys = PySem.Str.join ("" : Str) ys from PySem.StrLaws.glued_eq_join _ _]
  induction ys with
  | nil => rfl
  | cons x r ih =>
    cases r with
    | nil =>
      show x.length = x.length + 0
      rfl
    | cons y r =>
      show (x ++ ("" : Str) ++ PySem.Str.join ("" : Str) (y :: r)).length = _
      rw [len_app, len_app, ih]
      show x.length + 0 + _ = x.length + _
      rfl
theorem len_one (c : Nat) : (⟨#[c]⟩ : Str).length = 1 := rfl
/-- texts of one sign each -/
theorem sum_ones : ∀ ys : List Str, (∀ y ∈ ys, y.length = 1) → (ys.map (·.length)).sum = ys.length
  | [], _ => rfl
  | y :: r, h => by
    rw [List.map_cons, List.sum_cons, List.length_cons, h y (List.mem_cons_self ..), sum_ones r fun z hz => h z (List.mem_cons_of_mem _ hz)]
    omega
end Pu

set_option Elab.async false
set_option linter.all false
set_option maxRecDepth 100000
set_option maxHeartbeats 4000000
/-! what a def may know of the shows (repr) that are under way around it: none. A def that says repr keeps its promise there alone, and so do its callers. -/
namespace Pu
open PySem PySem.Spec PyProof.Rows L2
structure FnG (P : Program) (w : World) (K : PySem.W.Frag) (mg : Str → Option Value) (base : Heap) (CX : CXT) (k : Nat) (f : Addr) (fd : FuncData) (ps : List Str) (sp : Sp) : Prop where
  arity : ∀ args H Q E, sp args H Q E → args.length = ps.length
  go : ∀ (A : Around) (outer : List Env) (s : Shared) (H : Hp) (given : Args) (ws : List Value) (args : List V) (Q : VK) (E : XK), A.guards = some [] → Room k A → Env0 P w K mg base A outer s H → BindsTo s fd given (ps.zip ws) → Vals args ws → sp args H Q E →
    codeAny (model P w) A (.call (.ref f) given) (CR CX outer P w H s Q E) s
section
variable {P : Program} {w : World} {K : PySem.W.Frag} {mg : Str → Option Value} {base : Heap} {CX : CXT}
/-- a def of the text, its body walked where no show is under way -/
theorem fnG {x qual : Str} {st : Stmt} {f : Addr} {fd : FuncData} {N ps : List Str} {k : Nat} {sp : Sp} (F : Fun K x qual st f fd) (S : FnScope N ps (defScope st)) (ar : ∀ args H Q E, sp args H Q E → args.length = ps.length)
    (body : ∀ (cdv : Value) (A : Around) (outer : List Env) (s : Shared) (H : Hp) (args : List V) (Q : VK) (E : XK), A.guards = some [] → Room k (A.deeper (envOfC qual (defScope st) s.heap.objs.size f cdv)) → sp args H Q E →
      ∃ t, PSs (cxOf CX P w K mg base N qual (defScope st) f cdv A outer s H E).nox (defBody st) t ∧ t { nx := fun _ H' => Q .non H', rt := Q } (start N args) H) : FnG P w K mg base CX (k + 1) f fd ps sp := by
  obtain ⟨oc, od, kV, doc, pm, an, cdv, ct, osl, hfd, lk, hcd⟩ := F.ex
  subst hfd
  constructor
  · exact ar
  intro A outer s H given ws args Q E hG hr e0 hb rv hs
  have nargs := ar _ _ _ _ hs
  have inK : K.In s.heap := e0.mod.kin.keeps fun b o z => (e0.bs b o z).1
  have free : s.heap.NoLimit := e0.mod.nolimit.keeps fun b o z => (e0.bs b o z).1
  have kinds : ∀ y ∈ ps.zip ws, (defScope st).names.lookup y.1 = some .local ∨ ((defScope st).names.lookup y.1 = some .cell ∧ ((cellsFrom (s.heap.objs.size + 1) (defScope st).names []).lookup y.1).isSome = true) := by
    rintro ⟨n, v⟩ hy
    exact (S.par n (List.of_mem_zip hy).1).imp id fun q => ⟨q, PySem.W.cellsFrom_some _ _ _ (.inl q)⟩
  refine codeAny_call_function hr.depth (inK _ _ lk) rfl S.co S.gen rfl (PySem.W.codeRec_of inK hcd) (hb _ _ _ _ (wpAny_newFunctionEnv_cells S.kind kinds ?_))
  rintro env rfl s1 made
  refine ⟨free.keeps made.toInCall.keep, codeAny_func ?_⟩
  obtain ⟨t, walk, read⟩ := body cdv A outer s H args Q E hG (hr.deeper _) hs
  have I0 : Inv (cxOf CX P w K mg base N qual (defScope st) f cdv A outer s H E) [] (start N args) H s1 := inv_start S hr.hd e0 nargs rv made
  have over : ∀ (σ' : L2.St) (H' : Hp) (v : V) (u : Value) (s' : Shared), Inv (cxOf CX P w K mg base N qual (defScope st) f cdv A outer s H E) [] σ' H' s' → RelV v u → Q v H' → CE outer P w H s Q u s' := by
    intro σ' H' v u s' J r q
    exact ⟨v, H', J.os, J.bare, J.base, J.hok, r, q⟩
  refine wpAny_mono (walk.nox.run [] s1 (start N args) H _ I0 read) ?_ (fun _ _ z => z)
  rintro (_ | _ | _ | u) s' z
  · obtain ⟨σ', H', J, q⟩ := z
    exact over σ' H' .non Value.none s' J rfl q
  · exact (z.elim fun _ r => r.elim fun _ r => r.2.elim)
  · exact (z.elim fun _ r => r.elim fun _ r => r.2.elim)
  · obtain ⟨v, σ', H', J, r, q⟩ := z
    exact over σ' H' v u s' J r q
end
/-- such a def of the module, as its callers see it -/
structure CalG (P : Program) (w : World) (K : PySem.W.Frag) (mg : Str → Option Value) (base : Heap) (k : Nat) (x : Str) (sp : Sp) : Prop where
  ex : ∃ (f : Addr) (fd : FuncData) (ps : List Str), FnG P w K mg base CX0 k f fd ps sp ∧ mg x = some (.ref f) ∧ PySem.W.keepIn K (.ref f) = true ∧ Binds K fd ps []
theorem CalG.mk0 {P : Program} {w : World} {K : PySem.W.Frag} {mg : Str → Option Value} {base : Heap} {k : Nat} {x : Str} {sp : Sp} {f : Addr} {fd : FuncData} {ps : List Str} (F : FnG P w K mg base CX0 k f fd ps sp) (hm : mg x = some (.ref f)) (kp : PySem.W.keepIn K (.ref f) = true) (b : Binds K fd ps []) : CalG P w K mg base k x sp :=
  ⟨f, fd, ps, F, hm, kp, b⟩
theorem pe_cG {X : Cx} {k j : Nat} {x : Str} {sp : Sp} {e : Expr} {es : List Expr} {t : TA} {p pos : Pos} (c : CalG X.prog X.w X.K X.mg X.base k x sp) (hG : X.A.guards = some []) (hr : Room j X.A) (hk : k ≤ j) (hg : Gl X x) (ha : PA X (e :: es) t)
    (hdb : (x == ("__debug__" : Str)) = false := by decide) (he : starEach (e :: es) X.env = (false, eval e X.env) :: starEach es X.env := by rfl) (hpl : (backTo pos (starEach es X.env)).any (·.1) = false := by rfl) :
    PE X (.Call (.Name x p) (e :: es) [] pos) (tCall sp [] E0 t) := by
  obtain ⟨f, fd, ps, F, hm, kp, bd⟩ := c.ex
  constructor
  intro pins s σ H Q I read
  refine wpAny_Call_Name_kw (ld_glob I hg hm (PySem.W.callWith_K (h₀ := X.base) I.ok.mod.kin kp (thn (ha.run pos pins s σ H _ I read) ?_) he hpl) hdb)
  rintro us s1 ⟨vs, H1, I1, rv, q⟩
  refine ⟨I1.kIn, wpAny_call ?_⟩
  have q' : sp vs H1 Q E0 := by
    have := q
    rw [List.append_nil] at this
    exact this
  have hl : us.length = ps.length := by
    rw [← rv.length]
    exact F.arity _ _ _ _ q'
  have hb := bd s1 us I1.kIn (by rw [List.append_nil]; exact hl)
  rw [List.append_nil] at hb
  refine codeAny_mono (F.go X.A X.stack s1 H1 ⟨us, []⟩ us vs Q E0 hG (hr.mono hk) I1.env0 hb rv q') ?_
  rintro (e | (_ | _ | _ | u)) s2 z
  · exact (pass0 pins σ H1 s1 e s2 I1 z)
  · exact (show False from z).elim
  · exact (show False from z).elim
  · exact (show False from z).elim
  · exact I1.after z
end Pu

set_option Elab.async false
set_option linter.all false
set_option maxRecDepth 100000
set_option maxHeartbeats 4000000
/-! the end of a law whose def says repr; repr itself, of plain data of any depth -/
namespace Pu
open PySem PySem.Spec PyProof.Rows L2
section
variable {P : Program} {w : World} {K : PySem.W.Frag} {mg mb : Str → Option Value}
/-- the heap that is told of at the law's start: the script alone, if it is no object of the text's own -/
theorem start_env {s₁ : Shared} {a : Addr} {vs : List Value} {ns : List Int} (KX : K.In s₁.heap) (hm : s₁.heap.Ns mainGlobals mg) (hb : s₁.heap.Ns builtinsNs mb) (hbb : ∀ x : Str, x ≠ "__name__" → mb x = bootBuiltins x) (hl : s₁.heap.NoLimit) (hg : s₁.gens = #[])
    (ha : s₁.heap.get? a = some { cls := .type "list", data := .seq vs.toArray }) (hi : IntsAre vs ns) (hz : ns.length ≤ sizeLine) :
    ∃ H : Hp, SqL K H a (ns.map V.int) ∧ K.In (hidT s₁.heap H) ∧ (hidT s₁.heap H).Ns mainGlobals mg ∧ Env0 P w K mg (hidT s₁.heap H) callerA [] s₁ H ∧
      ∀ (H' : Hp) (s' : Shared), Un (frs []) [] H H' s₁.heap s'.heap → HOk P w H' s'.heap → OldK s₁.heap s'.heap := by
  have rv := vals_ints hi
  have key : ∃ H : Hp, SqL K H a (ns.map V.int) ∧ (∀ b u, H b = some u → b = a ∧ K.lookup a = none ∧ u = .frz { cls := .type "list", data := .seq vs.toArray } (.lst (ns.map V.int))) := by
    cases hk : K.lookup a with
    | none =>
      refine ⟨fun b => if b = a then some (.frz { cls := .type "list", data := .seq vs.toArray } (.lst (ns.map V.int))) else none, .inl (.inr ⟨_, if_pos rfl⟩), fun b u z => ?_⟩
      have z : (if b = a then some (HO.frz { cls := .type "list", data := .seq vs.toArray } (.lst (ns.map V.int))) else none) = some u := z
      by_cases hb : b = a
      · rw [if_pos hb] at z
        exact ⟨hb, rfl, (Option.some.inj z).symm⟩
      · rw [if_neg hb] at z
        cases z
    | some o =>
      have e := ha.symm.trans (KX a o hk)
      cases e
      exact ⟨fun _ => none, .inr ⟨_, vs.toArray, _, hk, rfl, rfl, rfl, by rw [List.size_toArray, hi.length]; exact hz, rv⟩, fun b u z => by cases z⟩
  obtain ⟨H, hS, only⟩ := key
  have get : ∀ {b : Addr} {o : Obj}, s₁.heap.get? b = some o → (∀ u, H b = some u → False) → (hidT s₁.heap H).get? b = some o := fun {b o} e n => hidT_get e (by
    cases q : H b with
    | none => rfl
    | some u => exact (n u q).elim)
  have noDict : ∀ {b : Addr} {o : Obj} {es : Array DictEntry} {ep : Nat}, s₁.heap.get? b = some o → o.data = .dict es ep → ∀ u, H b = some u → False := fun {b o es ep} e d u z => by
    obtain ⟨rfl, _, _⟩ := only b u z
    rw [ha] at e
    cases e
    cases d
  have ns : ∀ {b : Addr} {m : Str → Option Value}, s₁.heap.Ns b m → (hidT s₁.heap H).Ns b m := fun ⟨o, es, ep, e, d, r⟩ => ⟨o, es, ep, get e (noDict e d), d, r⟩
  have inK : K.In (hidT s₁.heap H) := fun b o e => get (KX b o e) fun u z => by
    obtain ⟨rfl, n, _⟩ := only b u z
    rw [n] at e
    cases e
  have ok : HOk P w H s₁.heap := fun b u z => by
    obtain ⟨rfl, _, rfl⟩ := only b u z
    exact ⟨ha, by rw [List.length_map]; exact hz, vs, _, rv, ha⟩
  refine ⟨H, hS, inK, ns hm, ⟨rfl, ⟨inK, ns hm, ⟨mb, ns hb, hbb⟩, ?_⟩, fun b o e => of_hidT e, Nat.le_of_eq (hidT_size _ _), trivial, ?_, ok, .of_eq hg⟩, ?_⟩
  · obtain ⟨mc, h1, h2⟩ := hl
    exact ⟨mc, ns h1, h2⟩
  · intro b z
    exact absurd (show b ∈ ([] : List Addr) from z) List.not_mem_nil
  · intro H' s' un ok'
    refine OldK.of_keep fun b o e => ?_
    cases q : H b with
    | none => exact un.keep b o e q (fun z => absurd (show b ∈ ([] : List Addr) from z) List.not_mem_nil) List.not_mem_nil
    | some u =>
      obtain ⟨rfl, _, rfl⟩ := only b u q
      have z := (ok' b _ (un.frzs b _ _ q)).1
      have e0 := (ok b _ q).1
      rw [e] at e0
      cases e0
      exact z
/-- the goal that k_head leaves, from the promise of a law that says repr -/
theorem walk_G {l : PySem.W.OpenLaw} {n k : Nat} {q : Program} {loose : List Str} {XP : (Str → Option Value) → Heap → Prop} {YP : World → Heap → Prop} {d : DefRec} {K : Params → PySem.W.Frag} {sp : World → Sp} {x : Str}
    (hn : l.most = some n) (hn2 : n ≤ sizeLine) (hdf : d.params.defaults = []) (hr : Room k callerA) (hY : ∀ (w : World) (h : Heap), YP w h → (K w.params).In h)
    (F : ∀ (w : World) (mg : Str → Option Value) (fa : Addr) (h : Heap), (K w.params).In h → h.Ns mainGlobals mg → mg d.name = some (.ref fa) →
      ∃ fd : FuncData, (∀ (s : Shared) (u : Value), BindsTo s fd ⟨[u], []⟩ [(x, u)]) ∧ ∀ base : Heap, (K w.params).In base → base.Ns mainGlobals mg → FnG l.prog w (K w.params) mg base CX0 k fa fd [x] (sp w))
    (hsp : ∀ (w : World) (H : Hp) (a : Addr) (ns : List Int), ns.length ≤ n → SqL (K w.params) H a (ns.map V.int) → sp w [.ref a] H (fun v _ => v = .bl true) fun _ _ _ => False) :
    PySem.W.WalkO q loose XP YP l.row.toRowW d [] (fun f vs => PySem.call f vs) := by
  refine Att.attach_call hn hdf ?_
  intro w s₀ s₁ mg mb fa o pm cd doc a vs ns G Y ho hd hcd hmg hobj hints hlen hg
  have KX := hY w _ Y
  obtain ⟨fd, hb, hF⟩ := F w mg fa _ KX G.T.g hmg
  obtain ⟨H, hS, hK, hN, e0, old⟩ := start_env (P := l.prog) (w := w) KX G.T.g G.T.b G.T.builtins G.T.nolimit hg hobj hints (Nat.le_trans hlen hn2)
  refine codeAny_mono ((hF _ hK hN).go callerA [] s₁ H ⟨[.ref a], []⟩ [.ref a] [.ref a] _ _ rfl hr e0 (hb s₁ (.ref a)) (.cons rfl .nil) (hsp w H a ns hlen hS)) ?_
  rintro (e | (_ | _ | _ | u)) s' z
  · exact (show False from z).elim
  · exact (show False from z).elim
  · exact (show False from z).elim
  · exact (show False from z).elim
  · obtain ⟨v, H', os, bare, un, ok', r, rfl⟩ := z
    cases (show u = Value.bool true from r)
    exact ⟨rfl, old H' s' un ok', os, bare⟩
end
/-! ### repr -/
mutual
theorem Dp.noDict {K : PySem.W.Frag} {H : Hp} : ∀ {d : PyData} {v : V}, Dp K H v d → d.hasDict = false
  | .none, _, _ => by simp only [PyData.hasDict]
  | .bool _, _, _ => by simp only [PyData.hasDict]
  | .int _, _, _ => by simp only [PyData.hasDict]
  | .str _, _, _ => by simp only [PyData.hasDict]
  | .list _, _, h => by
    cases h with
    | lst _ ha =>
      simp only [PyData.hasDict]
      exact DpAll.noDict ha
  | .tuple _, _, h => by
    cases h with
    | tup _ ha =>
      simp only [PyData.hasDict]
      exact DpAll.noDict ha
  | .dict _, _, h => by cases h
theorem DpAll.noDict {K : PySem.W.Frag} {H : Hp} : ∀ {ds : List PyData} {vs : List V}, DpAll K H vs ds → PyData.hasDictAll ds = false
  | [], _, _ => by simp only [PyData.hasDictAll]
  | _ :: _, _, h => by
    cases h with
    | cons h1 h2 =>
      simp only [PyData.hasDictAll, Dp.noDict h1, DpAll.noDict h2, Bool.or_self]
end
def rRepr (K : PySem.W.Frag) : List V → Hp → VK → Prop := fun xs H Q => ∃ x d, xs = [x] ∧ Dp K H x d ∧ d.showable = true ∧ d.depth ≤ 40 ∧ d.shown.length ≤ sizeLine ∧ Q (.str d.shown) H
theorem reprG {X : Cx} (K : PySem.W.Frag) (hG : X.A.guards = some []) (hu : X.A.units + 64 < cLine) (hK : X.K = K := by rfl) : CallR X (.builtin "repr") (rRepr K) := by
  subst hK
  intro pins s σ H xs us Q I r h
  obtain ⟨x, d, rfl, hd, hs, hdp, hz, q⟩ := h
  obtain ⟨u, rfl, ru⟩ := vals1 r
  obtain ⟨as, rd⟩ := Dp.reads I d x u hd ru
  have nd := Dp.noDict hd
  have grown : ∀ (h' : Heap) (u' tk : Tok), (∀ b o, s.heap.get? b = some o → h'.get? b = some o) → EP X pins σ Q (.str d.shown u') { s with heap := h', toks := tk } := fun h' u' tk k =>
    ⟨.str d.shown, H, I.turnedL (ch := []) (fun b o _ e => k b o e) (fun _ hb => absurd hb List.not_mem_nil), ⟨u', rfl⟩, q⟩
  have same : ∀ (u' : Tok) (tk : Nat), EP X pins σ Q (.str d.shown u') { s with toks := tk } := fun u' tk => ⟨.str d.shown, H, I.tok _, ⟨u', rfl⟩, q⟩
  cases rd with
  | none => exact PySem.P.repr_of_none (same _ _)
  | bool b => exact PySem.P.repr_of_bool (same _ _)
  | int i t =>
    have hs' : decide (i.natAbs.log2 < 1920) = true := hs
    exact PySem.P.repr_of_int (of_decide_eq_true hs') (same _ _)
  | str z t => exact PySem.P.repr_of_str (same _ _) hz
  | list a1 a2 a3 a4 => exact repr_of_reads' (.list a1 a2 a3 a4) hs (PyData.noDict_hsm nd) hG (by omega) (fun _ _ e => e) grown hz
  | tuple a1 a2 a3 a4 => exact repr_of_reads' (.tuple a1 a2 a3 a4) hs (PyData.noDict_hsm nd) hG (by omega) (fun _ _ e => e) grown hz
  | dict _ _ _ _ _ => cases hd
end Pu

set_option Elab.async false
set_option linter.all false
set_option maxRecDepth 100000
set_option maxHeartbeats 4000000
/-! calls that name their arguments; how long a show is; != of lists -/
namespace Pu
open PySem PySem.Spec PyProof.Rows L2
structure CalN (P : Program) (w : World) (K : PySem.W.Frag) (mg : Str → Option Value) (base : Heap) (k : Nat) (x : Str) (n : Nat) (ks : List Str) (gV : List V → List V → List V) (sp : Sp) : Prop where
  ex : ∃ (f : Addr) (fd : FuncData) (ps : List Str) (g : List Value → List Value → List Value), FnOk P w K mg base CX0 k f fd ps sp ∧ mg x = some (.ref f) ∧ PySem.W.keepIn K (.ref f) = true ∧ KBn K fd ps n ks g gV
theorem pe_cN {X : Cx} {k j n : Nat} {x : Str} {ks : List Str} {gV : List V → List V → List V} {sp : Sp} {e : Expr} {es : List Expr} {kws : List Keyword} {t tk : TA} {p pos : Pos} (c : CalN X.prog X.w X.K X.mg X.base k x n ks gV sp) (hr : Room j X.A) (hk : k ≤ j) (hg : Gl X x) (ha : PA X (e :: es) t) (hw : PK X kws tk)
    (hall : (backToKw pos (keywordEach kws X.env)).all (·.1.isSome) = true := by rfl) (hks : (backToKw pos (keywordEach kws X.env)).filterMap (·.1) = ks := by rfl)
    (hdb : (x == ("__debug__" : Str)) = false := by decide) (he : starEach (e :: es) X.env = (false, eval e X.env) :: starEach es X.env := by rfl)
    (hpl : ((backTo pos (starEach (e :: es) X.env)).any (·.1) || (backToKw pos (keywordEach kws X.env)).any (·.1.isNone)) = false := by rfl) : PE X (.Call (.Name x p) (e :: es) kws pos) (tCallN n ks.length sp gV E0 t tk) := by
  obtain ⟨f, fd, ps, g, F, hm, kp, kb⟩ := c.ex
  exact pe_callN F (hr.mono hk) hg hm kp kb pass0 ha hw hall hks hdb he hpl
/-- keyword-only parameters alone have defaults; n values are written, the keywords ks too, those of ms lack -/
theorem kb0 {K : PySem.W.Frag} {x qual : Str} {params : Arguments} {body : List Stmt} {scope : Scope} {kws : List (Str × V)} {f : Addr} {fd : FuncData} {ps : List Str} (F : FunD K x qual params body scope [] kws f fd) (n : Nat) (ks : List Str) (ms : List (Str × V)) (g : {α : Type} → List α → List α → List α → List α) (hk : kws ≠ []) (hms : ∀ q ∈ ms, q ∈ kws)
    (hrel : ∀ {vs mz zs : List V} {us mv ws : List Value}, Vals vs us → Vals mz mv → Vals zs ws → Vals (g vs mz zs) (g us mv ws))
    (h : ∀ (D : Addr) (doc pm : Value) (an : Option Addr) (cdv ct : Value) (us mv ws : List Value), us.length = n → mv.length = ms.length → ws.length = ks.length →
      KwChain D ((ms.map (·.1)).zip mv) (bindArgs (PySem.W.fnOf x qual params body scope .none (.ref D) doc pm an cdv ct) ⟨us, ks.zip ws⟩) (ps.zip (g us mv ws))) :
    ∃ mv : List Value, KBn K fd ps n ks (fun us ws => g us mv ws) (fun vs zs => g vs (ms.map (·.2)) zs) := by
  obtain ⟨oc, od, dV, kV, doc, pm, an, cdv, ct, osl, hfd, lk, hcd, hD, hK⟩ := F.ex
  subst hfd
  rcases hD with ⟨_, rfl⟩ | ⟨z, _⟩
  · rcases hK with z | ⟨D, rfl, hq⟩
    · exact absurd z hk
    · obtain ⟨mv, hl, rk, hin⟩ := kwd_vals (ms := ms) fun q hm => hq q (hms q hm)
      exact ⟨mv, fun s us ws X l1 l2 => BindsTo.of_looks fun M => KwChain.looks X hin (h D doc pm an cdv ct us mv ws l1 hl l2), fun r1 r2 => hrel r1 rk r2⟩
  · exact absurd rfl z
/-! ### how long a show is -/
theorem textFrom0 (ts : List Str) (acc : Str) : (textFrom 0 acc ts).length ≤ acc.length + piled ts := by
  cases ts with
  | nil =>
    show acc.length ≤ _
    omega
  | cons t r =>
    have h := textFrom_length_pos r 1 (acc ++ t) (by decide)
    have e : textFrom 0 acc (t :: r) = textFrom 1 (acc ++ t) r := rfl
    rw [e, h, len_app, piled_cons]
    omega
theorem listText_le (ts : List Str) : (listText ts).length ≤ piled ts + 2 := by
  have h := textFrom0 ts "["
  have e : ("[" : Str).length = 1 := rfl
  have e2 : ("]" : Str).length = 1 := rfl
  show (textFrom 0 "[" ts ++ "]").length ≤ _
  rw [len_app, e2]
  omega
theorem int_len {i : Int} (h : i.natAbs < 10 ^ 40) : ((toString i : String) : Str).length ≤ 41 := by
  have e := int_text_length_le10 (k := 40) (by decide) h
  rw [PySem.ofString_length]
  omega
theorem log_small {i : Int} (h : i.natAbs < 10 ^ 40) : i.natAbs.log2 < 1920 := by
  by_cases h0 : i.natAbs = 0
  · rw [h0]
    decide
  · rw [Nat.log2_lt h0]
    exact Nat.lt_of_lt_of_le h (by decide +kernel)
/-! ### deep == and != with the written part by name -/
theorem eqDK {X : Cx} {k : Nat} (K : PySem.W.Frag) (hr : Room k X.A) (h : X.K = K := by rfl) : OpR X (compareOp .Eq) (rEqD K) := by
  subst h
  exact op_eqD hr.units
theorem neDK {X : Cx} {k : Nat} (K : PySem.W.Frag) (hr : Room k X.A) (h : X.K = K := by rfl) : OpR X (compareOp .NotEq) (rNeD K) := by
  subst h
  exact op_neD hr.units
/-! ### texts of small signs, lists of texts -/
def Asc (z : Str) : Prop := ∀ c ∈ z.cps.toList, c < 128
theorem asc_ok {z : Str} (h : Asc z) : PyData.canLay0 (.str z) = true := by
  simp only [PyData.canLay0]
  unfold PyData.strOk
  rw [Array.all_eq_true']
  intro c hc
  have := h c (Array.mem_toList_iff.mpr hc)
  simp
  omega
theorem asc_app {x y : Str} (hx : Asc x) (hy : Asc y) : Asc (x ++ y) := by
  intro c hc
  have e : (x ++ y).cps.toList = x.cps.toList ++ y.cps.toList := Array.toList_append
  rw [e] at hc
  rcases List.mem_append.mp hc with h | h
  · exact hx c h
  · exact hy c h
theorem asc_cut {z : Str} (h : Asc z) (lo hi : Option Int) : Asc (cutS z lo hi) := by
  intro c hc
  exact h c (List.mem_of_mem_drop (List.mem_of_mem_take hc))
theorem asc_one {c : Nat} (h : c < 128) : Asc ⟨#[c]⟩ := by
  intro d hd
  have : d = c := by simpa using hd
  omega
theorem asc_join {a : Str} (ha : Asc a) : ∀ {ys : List Str}, (∀ y ∈ ys, Asc y) → Asc (Txt.join a ys) := by
  intro ys
  rw [show Txt.join a ys = PySem.Str.join a ys from PySem.StrLaws.glued_eq_join _ _]
  induction ys with
  | nil =>
    intro _ c hc
    cases hc
  | cons x r ih =>
    intro h
    cases r with
    | nil => exact h x (List.mem_cons_self ..)
    | cons y r => exact asc_app (asc_app (h x (List.mem_cons_self ..)) ha) (ih fun z hz => h z (List.mem_cons_of_mem _ hz))
theorem len_join (a : Str) (ys : List Str) : (Txt.join a ys).length ≤ (ys.map (·.length)).sum + ys.length * a.length := by
  rw [show Txt.join a ys = PySem.Str.join a ys from PySem.StrLaws.glued_eq_join _ _]
  exact StrLaws.join_length_le a ys
theorem asc_nil : Asc ("" : Str) := fun c hc => by cases hc
theorem asc_dec (z : Str) (h : (z.cps.toList.all fun c => decide (c < 128)) = true) : Asc z := fun c hc => of_decide_eq_true (List.all_eq_true.mp h c hc)
theorem sum_le_of {ys : List Str} {m : Nat} (h : ∀ y ∈ ys, y.length ≤ m) : (ys.map (·.length)).sum ≤ m * ys.length := by
  induction ys with
  | nil => exact Nat.le_refl _
  | cons y r ih =>
    rw [List.map_cons, List.sum_cons, List.length_cons, Nat.mul_succ]
    have h1 := h y (List.mem_cons_self ..)
    have h2 := ih fun z hz => h z (List.mem_cons_of_mem _ hz)
    omega
/-! ### the show of a list of texts -/
theorem show_strs : ∀ ys : List Str, (∀ y ∈ ys, Asc y) → piled (PyData.shownAll (ys.map PyData.str)) ≤ 10 * (ys.map (·.length)).sum + 4 * ys.length
  | [], _ => Nat.zero_le _
  | y :: r, h => by
    have h1 := StrLaws.reprText_len y fun c hc => Nat.lt_trans (h y (List.mem_cons_self ..) c hc) (by decide)
    have h2 := show_strs r fun z hz => h z (List.mem_cons_of_mem _ hz)
    show piled (reprText y :: PyData.shownAll (r.map PyData.str)) ≤ _
    rw [piled_cons, List.map_cons, List.sum_cons, List.length_cons]
    omega
theorem shown_strs {ys : List Str} (h : ∀ y ∈ ys, Asc y) : (PyData.shown (.list (ys.map PyData.str))).length ≤ 10 * (ys.map (·.length)).sum + 4 * ys.length + 2 := by
  have h1 := show_strs ys h
  have h2 := listText_le (PyData.shownAll (ys.map PyData.str))
  show (listText (PyData.shownAll (ys.map PyData.str))).length ≤ _
  omega
theorem showable_strs : ∀ ys : List Str, PyData.showable (.list (ys.map PyData.str)) = true := by
  intro ys
  show PyData.showableAll (ys.map PyData.str) = true
  induction ys with
  | nil => rfl
  | cons y r ih =>
    show (true && PyData.showableAll (r.map PyData.str)) = true
    rw [ih]
    rfl
theorem depth_strs (ys : List Str) : PyData.depth (.list (ys.map PyData.str)) ≤ 40 := by
  have h2 : PyData.depthAll (ys.map PyData.str) = 0 := by
    induction ys with
    | nil => rfl
    | cons y r ih =>
      show max 0 (PyData.depthAll (r.map PyData.str)) = 0
      rw [ih]
      rfl
  simp only [PyData.depth, h2]
  decide
theorem dp_strs {K : PySem.W.Frag} {H : Hp} : ∀ ys : List Str, DpAll K H (ys.map V.str) (ys.map PyData.str)
  | [] => .nil
  | y :: r => .cons (.str y) (dp_strs r)
theorem shaped_strs (ys : List Str) (h : ∀ y ∈ ys, Asc y) : SeqAt.shaped (.list (ys.map PyData.str)) = true := by
  have h1 : PyData.canLayAll0 (ys.map PyData.str) = true := by
    induction ys with
    | nil => rfl
    | cons y r ih =>
      show (PyData.canLay0 (.str y) && PyData.canLayAll0 (r.map PyData.str)) = true
      rw [asc_ok (h y (List.mem_cons_self ..)), ih fun z hz => h z (List.mem_cons_of_mem _ hz)]
      rfl
  have h2 : PyData.depthAll (ys.map PyData.str) = 0 := by
    clear h1 h
    induction ys with
    | nil => rfl
    | cons y r ih =>
      show max 0 (PyData.depthAll (r.map PyData.str)) = 0
      rw [ih]
      rfl
  unfold SeqAt.shaped
  simp only [PyData.canLay0, PyData.depth, h1, h2, Bool.true_and]
  decide
theorem eqv_nil (ds : List PyData) : PyData.eqv (.list ds) (.list []) = decide (ds = []) := by
  cases ds with
  | nil => rfl
  | cons _ _ => rfl
end Pu

set_option Elab.async false
set_option linter.all false
set_option maxRecDepth 100000
set_option maxHeartbeats 4000000
/-! an own error whose base is ValueError, LookupError or KeyError (whose maker is LookupError's): how it is made -/
namespace PySem.F
theorem store_KE : StoreFacts "KeyError" [.type "KeyError", .type "LookupError", .type "Exception", .type "BaseException", .type "object"] "object.__setattr__" "object" where
  mro := by kernel_rfl
  slot := .of (owner := "object") (n := "__setattr__") (by rw [typeLookup_type, builtinLookup_eq_fast]; kernel_rfl) (by decide +kernel) (by decide +kernel) (by decide +kernel)
    (by first | exact .inl (by decide +kernel) | exact .inr (by decide +kernel)) (by rw [isSubtype_type]; kernel_rfl)
  entry := entry_object_sa
  kind := by decide +kernel
  split := by decide +kernel
  hasOwner := by decide +kernel
  args := fun a b c => by unfold argsOk; kernel_rfl
  passes := fun self => by kernel_rfl
end PySem.F
namespace Er
open PySem PySem.HandSPX
open PySem.W (kdv_tup Looks InitBack)
open PySem.Builtin PySem.Builtin.ObjectAttr
/-- what the maker asks of the classes above -/
structure Above (bm : List Value) (B : String) : Prop where
  base : bm.contains (.type B) = true
  attr : bm.contains (.type "AttributeError") = false
  name : bm.contains (.type "NameError") = false
section
variable {prog : Program} {w : World} {A : Around} {R : Result → Shared → Prop} {E : Value → Shared → Prop} {h : Heap} {g : Array GenState} {d : Drawn} {t : Nat} {os : OsState}
variable {nm q : Str} {C N : Addr} {bs bm bmB : List Value} {hdct : Bool} {sn : List Str} {sub : List Value} {ab : Bool} {col : Option Bool} {dd : Option Addr} {k0 k1 k2 k3 k5 : Option Value} {B newId initId : String}
theorem has (C : Addr) (x : String) (l : List Value) (b : Bool) (e : l.contains (.type x) = b) : (Value.ref C :: l).contains (.type x) = b := by
  rw [List.contains_cons, e]
  rfl
/-- the maker's own look at its first argument -/
theorem look_new (F : ExcBaseFacts B newId initId bmB) (U : Above bm B) {rest : List Value} {Q : Unit → Shared → Prop}
    (hC : h.get? C = some (excClassObj nm q C N bs bm hdct sn sub ab col dd k0 k1 k2 k3 k5 newId)) (hq : Q () ⟨h, g, d, t, os⟩) : wpAny (model prog w) A (checkBuiltinCall newId ⟨.ref C :: rest, []⟩) Q E ⟨h, g, d, t, os⟩ := by
  have hB := has C B bm true U.base
  have hs := F.noStar
  simp only [checkBuiltinCall, F.newKind, F.newSplit, F.newRow]
  repeat (first | refine wpAny_loadPart_at hC ?_ | (refine wpAny_isSubtype_exc hC ?_; rw [hB]) | refine wpAny_staticBase_exc hC ?_ | refine wpAny_madeBy_exc hC ?_ | simp only [bne_self_eq_false, Bool.false_eq_true, if_false] | wp_step)
  exact hq
/-- the maker: a tuple of the arguments, and the error -/
theorem run_new (F : ExcBaseFacts B newId initId bmB) (U : Above bm B) {rest : List Value} (hC : h.get? C = some (excClassObj nm q C N bs bm hdct sn sub ab col dd k0 k1 k2 k3 k5 newId)) (hz : rest.length ≤ sizeLine)
    (hq : R (.ok (.ret (.ref (h.objs.size + 1)))) ⟨(h.push (kdv_tup rest)).push (excO C h.objs.size), g, d, t, os⟩) :
    codeAny (model prog w) A (.builtin newId ⟨.ref C :: rest, []⟩) R ⟨h, g, d, t, os⟩ := by
  have hends := F.ends
  have hB := has C B bm true U.base
  have hA := has C "AttributeError" bm false U.attr
  have hN := has C "NameError" bm false U.name
  refine codeAny_builtinAt F.entry ?_
  unfold Builtin.«BaseException.__new__»
  refine wpAt_bind ?_
  show wpAt _ _ _ (stack >>= _) _ _ _
  refine wpAt_bind (wpAt_stack fun p below => wpAt_of_wpAny ?_)
  wp_walk
  refine wpAt_of_wpAny ?_
  rw [F.owner]
  repeat (first | with_reducible refine wpAny_madeHere_exc F.canon hC ?_ | with_reducible refine wpAny_loadPart_at hC ?_ | (with_reducible refine wpAny_isSubtype_exc hC ?_; first | rw [hB] | rw [hA] | rw [hN]) | wp_step)
  show R _ _
  rw [Heap.size_push]
  exact hq
/-- type.__call__ at such a class -/
theorem run_type (F : ExcBaseFacts B newId initId bmB) (U : Above bm B) {rest : List Value} {fI : Addr} {Q : PySem.Fin → Shared → Prop} (hC : h.get? C = some (excClassObj nm q C N bs bm hdct sn sub ab col dd k0 k1 k2 k3 k5 newId))
    (hi : Looks (model prog w) h (typeLookup (.ref C) "__init__") (some (.ref fI))) (hb : ∀ self, Looks (model prog w) h (bindSpecial (.ref fI) self) (.ref fI, [self])) (hz : rest.length ≤ sizeLine)
    (hq : codeAny (model prog w) A (.call (.ref fI) ⟨.ref (h.objs.size + 1) :: rest, []⟩) (fun r s' => match r with | .ok (.ret v) => v = .none ∧ Q (.done (.ret (.ref (h.objs.size + 1)))) s' | .ok _ => False | .error e => E e s')
      ⟨(h.push (kdv_tup rest)).push (excO C h.objs.size), g, d, t, os⟩) :
    wpAny (model prog w) A (Builtin.«type.__call__» ⟨.ref C :: rest, []⟩) Q E ⟨h, g, d, t, os⟩ := by
  have grows : ∀ b o, h.get? b = some o → ((h.push (kdv_tup rest)).push (excO C h.objs.size)).get? b = some o := fun b o e => Heap.get?_push_of_some _ (Heap.get?_push_of_some _ e)
  have hC₁ := grows _ _ hC
  have hnew : ((h.push (kdv_tup rest)).push (excO C h.objs.size)).get? (h.objs.size + 1) = some (excO C h.objs.size) := by heap_get
  have hself : (Value.ref C :: bm).contains (.ref C) = true := by simp
  repeat (first | with_reducible refine wpAny_loadPart_at hC ?_ | with_reducible refine wpAny_madeBy_exc hC ?_ | wp_step)
  refine codeAny_call_builtin_code (Code.quiet_builtin _ F.quiet) (look_new F U hC ?_)
  refine run_new F U hC hz ?_
  show wpAny _ _ _ _ _ _
  unfold isInstance
  repeat (first | with_reducible refine wpAny_loadPart_at hnew ?_ | (with_reducible refine wpAny_isSubtype_exc hC₁ ?_; rw [hself]) | wp_step)
  show wpAny _ _ (typeLookup (.ref C) _) _ _ _
  refine (hi.keeps grows).at ?_
  refine wpAny_holding (wpAny_bind (((hb (.ref (h.objs.size + 1))).keeps grows).at ?_))
  refine wpAny_bind (wpAny_call (codeAny_mono hq fun r s' z => ?_))
  rcases r with e | (_ | _ | _ | v)
  · exact z
  · exact z.elim
  · exact z.elim
  · exact z.elim
  · obtain ⟨rfl, z⟩ := z
    first
      | exact wpAny_pure (wpAny_pure z)
      | (wp_walk; exact z)
/-- C(..): the maker, then the class's own __init__ -/
theorem call_cls (F : ExcBaseFacts B newId initId bmB) (U : Above bm B) {rest : List Value} {fI : Addr} (hC : h.get? C = some (excClassObj nm q C N bs bm hdct sn sub ab col dd k0 k1 k2 k3 k5 newId))
    (hi : Looks (model prog w) h (typeLookup (.ref C) "__init__") (some (.ref fI))) (hb : ∀ self, Looks (model prog w) h (bindSpecial (.ref fI) self) (.ref fI, [self])) (hz : rest.length ≤ sizeLine)
    (hq : codeAny (model prog w) (A.under (.builtin "type.__call__" ⟨.ref C :: rest, []⟩)) (.call (.ref fI) ⟨.ref (h.objs.size + 1) :: rest, []⟩) (InitBack (h.objs.size + 1) R)
      ⟨(h.push (kdv_tup rest)).push (excO C h.objs.size), g, d, t, os⟩) :
    codeAny (model prog w) A (.call (.ref C) ⟨rest, []⟩) R ⟨h, g, d, t, os⟩ := by
  have f1 := tc_lookup
  have f2 := tc_bind (.ref C)
  have hTy : (⟨h, g, d, t, os⟩ : Shared).TypeIs (.ref C) "type" := ⟨_, hC, rfl⟩
  refine codeAny_of_tree ?_
  show wpAny _ _ (callAny (.ref C) _) _ _ _
  repeat (any_goals (first | assumption | with_reducible refine wpAny_loadPart_at hC ?_ | wp_step))
  refine ⟨rfl, ?_⟩
  refine codeAny_call_builtin_at (Code.quiet_builtin _ (by decide +kernel)) entry_typeCall (wpAny_check_type_call_sub hC (run_type F U hC hi hb hz ?_))
  refine codeAny_mono hq fun r s' z => ?_
  rcases r with e | (_ | _ | _ | v)
  · exact z
  · exact z
  · exact z
  · exact z
  · exact z
end
end Er

set_option Elab.async false
set_option linter.all false
set_option maxRecDepth 100000
set_option maxHeartbeats 4000000
/-! an own error of one field, kept as it was handed in: made, raised, its field read -/
namespace PySem
namespace Er
open PySem.W PySem.Calls PyProof.Rows PySem.HandSPX _root_.Er
/-! ### the text of __init__, the field f -/
def iA (f : Str) (p1 p2 : Pos) : Arguments := { posonlyargs := [], args := [{ arg := "self", annotation := none, pos := p1 }, { arg := f, annotation := none, pos := p2 }], vararg := none, kwonlyargs := [], kw_defaults := [], kwarg := none, defaults := [] }
def iB (f : Str) (q1 q2 q3 q4 : Pos) : List Stmt := [.Assign [.Attribute (.Name "self" q1) f q2] (.Name f q3) q4]
def iS (f : Str) : Scope := { kind := .function, names := [(PySem.Str.ofString "self", .local), (f, .local)], isGenerator := false, isCoroutine := false, more := [] }
def flds : List Str := ["value", "name", "members", "bound", "index", "total", "event"]
abbrev vT : List Value := [.type "ValueError", .type "Exception", .type "BaseException", .type "object"]
abbrev lT : List Value := [.type "LookupError", .type "Exception", .type "BaseException", .type "object"]
abbrev kT : List Value := [.type "KeyError", .type "LookupError", .type "Exception", .type "BaseException", .type "object"]
/-- what the written part says of the class at C and of its __init__ at fI -/
structure ErrTxt (K : Frag) (mg : Str → Option Value) (x f : Str) (C fI : Addr) : Prop where
  ff : f ∈ flds
  gC : mg x = some (.ref C)
  cls : ∃ nm q N bs bm sn sub ab col dd k0 k1 k2 k3 k5, (K.lookup C = some (excClassObj nm q C N bs bm true sn sub ab col dd k0 k1 k2 k3 k5 "ValueError.__new__") ∧ Above bm "ValueError") ∨ (K.lookup C = some (excClassObj nm q C N bs bm true sn sub ab col dd k0 k1 k2 k3 k5 "LookupError.__new__") ∧ Above bm "LookupError")
  over : excOver K C vT = true ∨ excOver K C lT = true ∨ excOver K C kT = true
  sa : findIn K (.ref C) "__setattr__" = some (some (.builtin "object.__setattr__"))
  ga : findIn K (.ref C) "__getattribute__" = some (some (.builtin "BaseException.__getattribute__"))
  gg : findIn K (.ref C) "__getattr__" = some none
  noN : findIn K (.ref C) f = some none
  iC : findIn K (.ref C) "__init__" = some (some (.ref fI))
  tC : typeIn K (.ref fI) = some (.type "function")
  kC : keepIn K (.ref C) = true
  exC : subIn K (.ref C) (.type "BaseException") = some true
  tyC : typeIn K (.ref C) = some (.type "type")
  hdC : hasDictIn K C = true
  isC : isClsIn K C = true
  fn : ∃ (q : Str) (oc : Value) (od : Option Addr) (doc pm : Value) (an : Option Addr) (cdv ct : Value) (osl : Array (Option Value)) (p1 p2 q1 q2 q3 q4 : Pos),
    K.lookup fI = some ⟨oc, od, .func (fnOf "__init__" q (iA f p1 p2) (iB f q1 q2 q3 q4) (iS f) .none .none doc pm an cdv ct), osl⟩ ∧ codeIn K cdv q = true
theorem ErrTxt.clsIn {K : Frag} {mg : Str → Option Value} {x f : Str} {C fI : Addr} (T : ErrTxt K mg x f C fI) : ∃ cd, W.clsIn K C = some cd ∧ cd.hasDict = true := by
  obtain ⟨nm, q, N, bs, bm, sn, sub, ab, col, dd, k0, k1, k2, k3, k5, h | h⟩ := T.cls
  · refine ⟨{ name := nm, bases := bs, mro := .ref C :: bm, ns := N, qualname := q, hasDict := true, slotNames := sn, subclasses := sub, abstract := ab, collection := col, hasDel := false }, ?_, rfl⟩
    unfold W.clsIn
    rw [h.1]
  · refine ⟨{ name := nm, bases := bs, mro := .ref C :: bm, ns := N, qualname := q, hasDict := true, slotNames := sn, subclasses := sub, abstract := ab, collection := col, hasDel := false }, ?_, rfl⟩
    unfold W.clsIn
    rw [h.1]
theorem loadSlot {M : Model} {s : Shared} {name : Str} {scope : Scope} {L a : Addr} {cd : Value} {m : Str → Option Value} {x : Str} {pos : Pos} {v : Value} {Q : Value → Shared → Prop} {A : Around} {E : Value → Shared → Prop} (hn : s.heap.Ns L m) (hv : m x = some v) (h : Q v s)
    (hk : scope.kind = .function := by rfl) (hl : (envOfC name scope L a cd).kindOf x = some .local := by rfl) (hd : (x == ("__debug__" : Str)) = false := by decide) :
    wpAny M A (eval (.Name x pos) (envOfC name scope L a cd)) Q E s := wpAny_Name (wpAny_loadName_local hk hl hn hv h) hd
/-- what __init__ leaves of a fresh error at x -/
structure Left (h h' : Heap) (x C dx t1 : Addr) (f : Str) (v : Value) : Prop where
  keep : ∀ b o, b ≠ x → h.get? b = some o → h'.get? b = some o
  obj : h'.get? x = some { cls := .ref C, dict := some dx, data := .fields #[.ref t1, .none, .none, .none, .bool false, .none] }
  big : h.objs.size ≤ dx
  ne : dx ≠ x
  ns : h'.Ns1 dx (fun y => if y = f then some v else none)
/-- a made error -/
structure Made (h h' : Heap) (e C d : Addr) (f : Str) (v : Value) : Prop where
  keep : ∀ b o, h.get? b = some o → h'.get? b = some o
  new : h.objs.size ≤ e
  obj : ∃ oe vs, h'.get? e = some oe ∧ oe.cls = .ref C ∧ oe.dict = some d ∧ oe.data = .fields vs ∧ vs[1]? = some .none
  big : h.objs.size ≤ d
  ne : d ≠ e
  ns : h'.Ns1 d (fun y => if y = f then some v else none)
section
open Builtin Builtin.ObjectAttr
variable {prog : Program} {w : World} {A : Around} {E : Value → Shared → Prop} {R : Result → Shared → Prop} {s : Shared} {K : Frag} {mg : Str → Option Value} {x0 f : Str} {C fI : Addr}
/-- the store of the field -/
theorem put_field {hp : Heap} {g : Array GenState} {d : Drawn} {t : Nat} {os : OsState} (T : ErrTxt K mg x0 f C fI) {x : Addr} {fv : Array Value} {tk : Tok} {v : Value} (X : K.In hp) (hx : hp.get? x = some { cls := .ref C, data := .fields fv })
    (hq : ∀ h' tk' dx, (∀ b o, b ≠ x → hp.get? b = some o → h'.get? b = some o) → hp.objs.size ≤ dx → dx ≠ x → h'.get? x = some { cls := .ref C, dict := some dx, data := .fields fv } →
      h'.Ns1 dx (fun y => if y = f then some v else none) → R (.ok (.ret .none)) ⟨h', g, d, tk', os⟩) :
    codeAny (model prog w) A (.call (.builtin "object.__setattr__") ⟨[.ref x, .str f tk, v], []⟩) R ⟨hp, g, d, t, os⟩ := by
  have I : W.InstAt hp x { cls := .ref C, data := .fields fv } C none := ⟨hx, rfl, rfl, trivial⟩
  have ht : takerIn K C f = some none := by
    unfold takerIn
    rw [T.noN]
    rfl
  obtain ⟨cd, hcd, hh⟩ := T.clsIn
  have hcls : W.Looks (model prog w) hp (classData C) cd := W.looks_clsIn X hcd
  have hxs : x ≠ hp.objs.size := Nat.ne_of_lt (Heap.lt_size hx)
  have key : ∀ b, wpAny (model prog w) A.in1 (storeInOwnDict (.ref x) (.ref C) (.str f tk) f v b)
      (fun fin s' => match fin with | .done f => R (.ok f) s' | .again c' => c'.quiet = true ∧ codeAny (model prog w) A c' R s') (fun e s' => R (.error e) s') ⟨hp, g, d, t, os⟩ := by
    intro b
    obtain ⟨nm, bs, mro, ns, qn, hd, sn, sb, ab, col, del⟩ := cd
    dsimp only at hh
    subst hh
    unfold storeInOwnDict ownDictForStores
    repeat (first | with_reducible refine HandSPX.store_in_new ?_ ?_ | with_reducible refine wpAny_loadPart_at hx ?_ | with_reducible refine hcls.at ?_ | wp_step)
    · exact ⟨_, #[], _, (Heap.get?_update_ne _ _ _ _ hxs.symm).trans (Heap.get?_push_at rfl rfl), rfl, fun e he => absurd he (by simp), fun _ => rfl⟩
    · intro h' tk' hn' hs
      have hx₁ : (hp.push { cls := .type "dict", data := .dict #[] }).get? x = some { cls := .ref C, data := .fields fv } := Heap.get?_push_of_some _ hx
      refine hq h' tk' hp.objs.size (fun b o hb ho => ?_) (Nat.le_refl _) hxs.symm ?_ hn'
      · exact (hs.2 b (Nat.ne_of_lt (Heap.lt_size ho))).trans ((Heap.get?_update_ne _ _ _ _ hb).trans (Heap.get?_push_of_some _ ho))
      · exact (hs.2 x hxs).trans (Heap.get?_update_self _ hx₁ rfl)
  rcases T.over with o | o | o
  · exact osa_openX F.store_ValueError X I o ht key
  · exact osa_openX F.store_LookupError X I o ht key
  · exact osa_openX F.store_KE X I o ht key
end
section
variable {prog : Program} {w : World} {A : Around} {E : Value → Shared → Prop} {R : Result → Shared → Prop} {s : Shared} {K : Frag} {mg : Str → Option Value} {x0 f : Str} {C fI : Addr}
theorem run_init (T : ErrTxt K mg x0 f C fI) {x t0 : Addr} {v : Value} (X : K.In s.heap) (hlim : s.heap.NoLimit) (hx : s.heap.get? x = some (excO C t0)) (hroom : A.depth < recursionLimit)
    (hq : ∀ h' tk dx, Left s.heap h' x C dx t0 f v → R (.ok (.ret .none)) { s with heap := h', toks := tk }) :
    codeAny (model prog w) A (.call (.ref fI) ⟨[.ref x, v], []⟩) R s := by
  obtain ⟨q, oc, od, doc, pm, an, cdv, ct, osl, p1, p2, q1, q2, q3, q4, ho, hcd⟩ := T.fn
  have hf := T.ff
  simp only [flds, List.mem_cons, List.not_mem_nil, or_false] at hf
  rcases hf with rfl | rfl | rfl | rfl | rfl | rfl | rfl
  all_goals
    refine Att.call_fn (binds := [("self", .ref x), (_, v)]) X hlim ho hcd hroom (BindsTo.of_eq (by first | rfl | with_unfolding_all rfl)) (by first | rfl | decide | with_unfolding_all rfl) (fun s₁ IC => ?_) rfl rfl rfl
    obtain ⟨h₁, tk₁, rfl⟩ := IC.toInCall.same
    have k : ∀ b o, s.heap.get? b = some o → h₁.get? b = some o := IC.toInCall.keep
    have hn := IC.toInCall.ns
    have X₁ : K.In h₁ := X.keeps k
    have hx₁ := k _ _ hx
    show wpAny _ _ (execs _ _) _ _ _
    refine wpAny_execs_cons (plainObj_wpAny_Assign_Attribute ?_)
    refine loadSlot (v := v) hn (by first | rfl | with_unfolding_all rfl | kernel_rfl) (loadSlot (v := .ref x) hn (by first | rfl | with_unfolding_all rfl | kernel_rfl) ?_)
    refine set_plain X₁ (ox := excO C t0) (od := none) ⟨hx₁, rfl, rfl, trivial⟩ T.sa ?_
    refine put_field T X₁ hx₁ (fun h₃ tk₃ dx k₃ dn dne hx₃ hn₃ => ?_)
    show wpAny _ _ (execs _ _) _ _ _
    have z : s.heap.objs.size < h₁.objs.size := hn.lt
    exact wpAny_execs_nil (hq h₃ tk₃ dx ⟨fun b o hb e => k₃ b o hb (k b o e), hx₃, Nat.le_of_lt (Nat.lt_of_lt_of_le z dn), dne, hn₃⟩)
theorem run_made (T : ErrTxt K mg x0 f C fI) {v : Value} (X : K.In s.heap) (hlim : s.heap.NoLimit) (hroom : A.depth + 1 < recursionLimit)
    (hq : ∀ h' tk e d, Made s.heap h' e C d f v → R (.ok (.ret (.ref e))) { s with heap := h', toks := tk }) :
    codeAny (model prog w) A (.call (.ref C) ⟨[v], []⟩) R s := by
  have hc := T.cls
  obtain ⟨hp, g, dr, tk, os⟩ := s
  have k : ∀ b o, hp.get? b = some o → ((hp.push (kdv_tup [v])).push (excO C hp.objs.size)).get? b = some o := fun b o e => Heap.get?_push_of_some _ (Heap.get?_push_of_some _ e)
  have hget : ((hp.push (kdv_tup [v])).push (excO C hp.objs.size)).get? (hp.objs.size + 1) = some (excO C hp.objs.size) := by heap_get
  have hz : [v].length ≤ sizeLine := by
    show 1 ≤ sizeLine
    decide
  have body : codeAny (model prog w) (A.under (.builtin "type.__call__" ⟨.ref C :: [v], []⟩)) (.call (.ref fI) ⟨.ref (hp.objs.size + 1) :: [v], []⟩) (InitBack (hp.objs.size + 1) R) ⟨(hp.push (kdv_tup [v])).push (excO C hp.objs.size), g, dr, tk, os⟩ := by
    refine run_init (s := ⟨(hp.push (kdv_tup [v])).push (excO C hp.objs.size), g, dr, tk, os⟩) T (X.keeps k) (hlim.keeps k) hget ?_ ?_
    · show A.depth + 1 < recursionLimit
      exact hroom
    · rintro h' tk' dx ⟨k', hx, dn, dne, hns⟩
      have old : ∀ b o, hp.get? b = some o → h'.get? b = some o := fun b o e => k' b o (Nat.ne_of_lt (Nat.lt_succ_of_lt (Heap.lt_size e))) (k b o e)
      have z : hp.objs.size + 1 + 1 ≤ dx := by
        first
          | exact dn
          | (have q := dn; rw [Heap.size_push, Heap.size_push] at q; exact q)
      exact ⟨rfl, hq h' tk' (hp.objs.size + 1) dx ⟨old, Nat.le_succ _, ⟨_, _, hx, rfl, rfl, rfl, rfl⟩, Nat.le_trans (Nat.le_trans (Nat.le_succ _) (Nat.le_succ _)) z, dne, hns⟩⟩
  obtain ⟨nm, q, N, bs, bm, sn, sub, ab, col, dd, k0, k1, k2, k3, k5, ⟨hC, U⟩ | ⟨hC, U⟩⟩ := hc
  · exact call_cls F.excBase_ValueError U (X _ _ hC) (looks_findIn X T.iC) (fun self => bind_fn X self T.tC) hz body
  · exact call_cls F.excBase_LookupError U (X _ _ hC) (looks_findIn X T.iC) (fun self => bind_fn X self T.tC) hz body
end
end Er
end PySem

set_option Elab.async false
set_option linter.all false
set_option maxRecDepth 100000
set_option maxHeartbeats 4000000
/-! an own error of one field, over the layer -/
namespace Pu
open PySem PySem.Spec PyProof.Rows L2
open PySem.Er (ErrTxt)
theorem relO_one {v : V} {u : Value} (r : RelV v u) (f g : Str) : RelO (List.lookup g [(f, v)]) (if g = f then some u else none) := by
  by_cases h : g = f
  · subst h
    rw [if_pos rfl, show List.lookup g [(g, v)] = some v by simp [List.lookup]]
    exact r
  · have e : (g == f) = false := by simpa using h
    rw [if_neg h, show List.lookup g [(f, v)] = none by simp [List.lookup, e]]
    trivial
section
variable {X : Cx} {x f : Str} {C fI : Addr}
/-- x(e) -/
def tMkE (C : Addr) (f : Str) (ta : TA) : L2.St → Hp → XK → Prop := fun σ H Q => ta σ H fun vs H1 => ∃ v, vs = [v] ∧ ∀ d, H1 d = none → Q (.ref C) (some d) (upd H1 d (.xd [(f, v)]))
theorem pmk_err {a : Expr} {ta : TA} {p pos : Pos} {k : Nat} (T : ErrTxt X.K X.mg x f C fI) (hr : Room k X.A) (ha : PA X [a] ta) (hg : Gl X x) (hdb : (x == ("__debug__" : Str)) = false := by decide)
    (he : starEach (a :: []) X.env = (false, eval a X.env) :: starEach [] X.env := by rfl) (hpl : (backTo pos (starEach [] X.env)).any (·.1) = false := by rfl) :
    PMk X (.Call (.Name x p) [a] [] pos) (tMkE C f ta) := by
  intro pins s σ H Q I h
  refine wpAny_Call_Name_kw (ld_glob I hg T.gC ?_ hdb)
  refine PySem.W.callWith_K (h₀ := X.base) I.ok.mod.kin T.kC (thn (ha.run pos pins s σ H _ I h) fun us s1 hh => ?_) he hpl
  obtain ⟨vs, H1, I1, r1, v, rfl, q1⟩ := hh
  refine ⟨I1.kIn, ?_⟩
  obtain ⟨u, rfl, ru⟩ := vals1 r1
  show wpAny _ _ (call (.ref C) [u]) _ _ _
  have hlim := I1.nolimit
  obtain ⟨hp, g, dr, tk, os⟩ := s1
  refine wpAny_call (PySem.Er.run_made T I1.kIn hlim (by have := hr.dp; omega) fun h' tk' e d M => ?_)
  show MkP X pins σ Q (.ref e) ⟨h', g, dr, tk', os⟩
  obtain ⟨oe, fv, hoe, hc, hd, hdat, h1⟩ := M.obj
  obtain ⟨G', g1, g2⟩ := restrict h' fun b => decide (b ≠ e)
  have gk : ∀ b, b ≠ e → G'.get? b = h'.get? b := fun b hb => g1 b (decide_eq_true hb)
  have ge : G'.get? e = none := g2 e (by simp)
  have old : ∀ b o, hp.get? b = some o → G'.get? b = some o := fun b o q => (gk b (Nat.ne_of_lt (Nat.lt_of_lt_of_le (Heap.lt_size q) M.new))).trans (M.keep b o q)
  have ob : ObjOk X.prog X.w (upd H1 d (.xd [(f, v)])) G' d (.xd [(f, v)]) := ⟨_, M.ns.at (fun o q => (gk d M.ne).trans q), fun y => relO_one ru f y⟩
  have J : Inv X pins σ (upd H1 d (.xd [(f, v)])) ⟨G', g, dr, tk', os⟩ := I1.laid (t' := tk') old M.big ob
  refine ⟨e, oe, fv, ⟨G', g, dr, tk', os⟩, _, .ref C, some d, rfl, J, fun b o q => ?_, ge, hoe, ⟨hc, hd⟩, hdat, h1, ?_, rfl, I1.bare, raises_own T.exC T.tyC, q1 d (I1.hok.fresh M.big)⟩
  · by_cases hb : b = e
    · have q' : G'.get? b = some o := q
      rw [hb, ge] at q'
      cases q'
    · exact (gk b hb).symm.trans q
  · rw [upd_ne (Ne.symm M.ne)]
    exact I1.hok.fresh M.new
/-- raise x(e) -/
def tRaiseE (C : Addr) (f : Str) (W : WX) (ta : TA) : TS := fun _ σ H => tMkE C f ta σ H fun cls d H' => W cls d σ H'
theorem ps_raiseE {a : Expr} {ta : TA} {W : WX} {p pos pos2 : Pos} {k : Nat} (hc : X.calm = true) (T : ErrTxt X.K X.mg x f C fI) (hr : Room k X.A) (tk : Takes X W) (ha : PA X [a] ta) (hg : Gl X x) (hdb : (x == ("__debug__" : Str)) = false := by decide)
    (he : starEach (a :: []) X.env = (false, eval a X.env) :: starEach [] X.env := by rfl) (hpl : (backTo pos (starEach [] X.env)).any (·.1) = false := by rfl) :
    PS X (.Raise (some (.Call (.Name x p) [a] [] pos)) none pos2) (tRaiseE C f W ta) := ps_raise hc tk (pmk_err T hr ha hg hdb he hpl)
/-- e.f, e the error that the suite holds at a, of the class cls with its dict d -/
def tByE (C : Addr) (f : Str) (a : Addr) (cls : Value) (d : Option Addr) (te : TE) : TE := fun σ H Q => te σ H fun y H1 => y = .ref a ∧ cls = .ref C ∧ ∃ (dd : Addr) (v : V), d = some dd ∧ H1 dd = some (.xd [(f, v)]) ∧ Q v H1
theorem pe_byE {a : Addr} {oe : Obj} {cls : Value} {d : Option Addr} {pn : List (Addr × Obj)} {e : Expr} {te : TE} {pos : Pos} (T : ErrTxt X.K X.mg x f C fI) (hz : Zc cls d oe) (hf : ∃ vs, oe.data = .fields vs) (he : PE (X.suite a ((a, oe) :: pn)) e te)
    (hb : attributeBase e f X.env (eval e X.env) = eval e X.env := by rfl) : PE (X.suite a ((a, oe) :: pn)) (.Attribute e f pos) (tByE C f a cls d te) := by
  constructor
  intro pins s σ H Q I h
  refine attr_of hb (thn (he.run pins s σ H _ I h) fun u s1 hh => ?_)
  obtain ⟨y, H1, I1, ry, rfl, rfl, dd, v, rfl, ea, q⟩ := hh
  obtain rfl : u = Value.ref a := ry
  obtain ⟨ha, _⟩ := I1.pin (a, oe) (List.mem_append_left _ List.mem_cons_self)
  obtain ⟨vs, hd⟩ := hf
  have hx : ObjOk X.prog X.w H1 s1.heap dd (.xd [(f, v)]) := I1.hok dd _ ea
  obtain ⟨mA, hns, hr⟩ := hx
  obtain ⟨od, ho, hl⟩ := lookIn_ns hns
  have l : List.lookup f [(f, v)] = some v := by simp [List.lookup]
  obtain ⟨u, hu, ru⟩ := RelO.some_of (v := v) (o := mA f) (by rw [← l]; exact hr f)
  have J : PySem.W.InstAt s1.heap a oe C (some od) := ⟨ha, hz.1, by unfold PySem.W.notCls; rw [hd] <;> rfl, by rw [hz.2]; exact ho⟩
  exact HandSPX.exc_get I1.kIn J T.ga T.gg T.exC (PySem.W.findObj_own T.hdC T.noN rfl (by rw [hl, hu])) (handed_of ru) ⟨v, H1, I1.tok _, ru, q⟩
end
end Pu

set_option Elab.async false
set_option linter.all false
set_option maxRecDepth 100000
set_option maxHeartbeats 4000000
/-! {**d, k: v}: a display that takes a dict in -/
namespace PySem
section
variable {prog : Program} {w : World} {K : Type} [DecidableEq K] {knd : KeyKind prog w K} {A : Around} {E : Value → Shared → Prop} {s : Shared}
/-- one entry put: its hash is known -/
theorem wpAny_put {d : Addr} {kvs : List (K × Value)} {k : K} {key v : Value} {Q : Unit → Shared → Prop} (hkey : knd.is k key = true) (hm : s.heap.DictOf knd d kvs)
    (hQ : ∀ h', h'.DictOf knd d (stored kvs k v) → Heap.SameBut d s.heap h' → Q () { s with heap := h' }) (hsz : kvs.length ≤ sizeLine) :
    wpAny (model prog w) A (dictPut d (knd.hash k) key v) Q E s := by
  obtain ⟨o, es, ep, ho, hc, hd, hk, hp, hn⟩ := hm
  have hes : es.size ≤ sizeLine := by
    have e1 := hp.length
    have e2 : es.toList.length = es.size := by simp
    omega
  unfold dictPut
  refine wpAny_bind (wpAny_dictFind_of hkey ho hd hk ?_)
  have hidx : (es.findIdx? fun e => knd.is k e.key) = kvs.findIdx? fun kv => decide (kv.1 = k) := by
    rw [← hp.findIdx k]
    obtain ⟨l⟩ := es
    simp
  cases hi : es.findIdx? fun e => knd.is k e.key with
  | some i =>
    refine wpAny_updateDict ho hd (hQ _ ⟨_, _, ep, Heap.get?_update_self _ ho (Obj.isFreed_of_dict (Obj.data_mapDict hd _)), hc.mapDict _, Obj.data_mapDict hd _, hk.modify _ _, ?_, ?_⟩ (Heap.SameBut.update ..))
    · rw [stored, if_pos (any_of_findIdx_some (hidx ▸ hi))]
      have hl : (es.toList.findIdx? fun e => knd.is k e.key) = some i := by
        rw [← hi]
        obtain ⟨l⟩ := es
        simp
      have := hp.modify hn hl v
      obtain ⟨l⟩ := es
      simpa using this
    · rw [stored, if_pos (any_of_findIdx_some (hidx ▸ hi)), keys_map_store]
      exact hn
  | none =>
    have hnot : k ∉ kvs.map (·.1) := not_mem_of_findIdx_none (hidx ▸ hi)
    have hany : ¬ (kvs.any fun kv => decide (kv.1 = k)) = true := by
      rw [List.any_eq_true]
      rintro ⟨kv, hkv, he⟩
      exact hnot (List.mem_map.mpr ⟨kv, hkv, of_decide_eq_true he⟩)
    refine wpAny_updateDictKeys (hz := hes) ho hd (hQ _ ⟨_, _, ep + 1, Heap.get?_update_self _ ho (Obj.isFreed_of_dict (Obj.data_mapDictKeys hd _)), hc.mapDictKeys _, Obj.data_mapDictKeys hd _, hk.push hkey _, ?_, ?_⟩ (Heap.SameBut.update ..))
    · rw [stored, if_neg hany]
      have := hp.append hkey (knd.hash k) v
      obtain ⟨l⟩ := es
      simpa using this
    · rw [stored, if_neg hany, List.map_append, List.nodup_append]
      refine ⟨hn, by simp, ?_⟩
      intro a ha b hb
      simp only [List.map_cons, List.map_nil, List.mem_singleton] at hb
      subst hb
      exact fun e => hnot (e ▸ ha)
theorem sub_dd : isSubtype (.type "dict") (.type "dict") = pure true := by rw [isSubtype_type]; kernel_rfl
/-- a dict's entries put into another dict, one by one -/
theorem wpAny_merge {a d : Addr} {ds kvs : List (K × Value)} {Q : Unit → Shared → Prop} (hne : a ≠ d) (hsys : (a == sysModules) = false) (hd : s.heap.DictOf knd d ds) (ha : s.heap.DictOf knd a kvs)
    (hQ : ∀ h', h'.DictOf knd d (merged ds kvs) → Heap.SameBut d s.heap h' → Q () { s with heap := h' }) (hsz : ds.length + kvs.length ≤ sizeLine) :
    wpAny (model prog w) A (mergeMapping d (.ref a) false) Q E s := by
  obtain ⟨od, esd, epd, hod, hcd, hdd, hkd, hpd, hnd⟩ := id hd
  obtain ⟨oa, esa, epa, hoa, hca, hda, hka, hpa, hna⟩ := id ha
  have hT : s.TypeIs (.ref a) "dict" := ⟨oa, hoa, hca.1⟩
  have hlen : kvs.length = esa.size := by
    rw [← hpa.length]
    simp
  have noRef : ∀ e ∈ esa, ∀ x, e.key ≠ .ref x := fun e he x z => by
    obtain ⟨k, hk, _⟩ := hka e he
    have := knd.byValue k _ hk
    rw [z] at this
    cases this
  unfold mergeMapping
  refine wpAny_bind (wpAny_isInstance hT sub_dd ?_)
  rw [if_pos rfl]
  refine wpAny_bind (wpAny_specialOf hT F.slot_dict_iter.lookup (wpAny_bind (wpAny_pure ?_)))
  rw [show ((some (Value.builtin "dict.__iter__") : Option Value) == some (.builtin "dict.__iter__")) = true by decide +kernel]
  dsimp only
  rw [if_neg (by rw [hsys]; exact Bool.false_ne_true)]
  refine wpAny_bind (wpAny_dictEntries hod hdd ?_)
  have first : esd.isEmpty = true ∨ esd.isEmpty = false := by
    cases esd.isEmpty
    · exact .inr rfl
    · exact .inl rfl
  have go : ∀ (f : Nat → PUnit → Sem (ForInStep PUnit)) (R : PUnit → Shared → Prop),
      (∀ (i : Nat) (h' : Heap) (e : DictEntry) (T : ForInStep PUnit → Shared → Prop), i < esa.size → h'.get? a = some oa → esa[i]? = some e →
        wpAny (model prog w) A (dictPut d e.hash e.key e.val) (fun _ s' => ∃ h'', s' = { s with heap := h'' } ∧ h''.get? a = some oa ∧ T (.yield PUnit.unit) s') E { s with heap := h' } → wpAny (model prog w) A (f i PUnit.unit) T E { s with heap := h' }) →
      (∀ h', h'.DictOf knd d (merged ds kvs) → Heap.SameBut d s.heap h' → R PUnit.unit { s with heap := h' }) →
      wpAny (model prog w) A (forIn (List.range esa.size) PUnit.unit f) R E s := by
    intro f R hf hR
    rw [List.range_eq_range']
    refine wpAny_forIn_list _
      (fun rest _ s' => ∃ h' i, s' = { s with heap := h' } ∧ rest = List.range' i (esa.size - i) ∧ i ≤ esa.size ∧ h'.DictOf knd d (merged ds (kvs.take i)) ∧ h'.get? a = some oa ∧ Heap.SameBut d s.heap h')
      _ ?_ ?_ _ _ ⟨s.heap, 0, rfl, by simp, Nat.zero_le _, by simpa [merged] using hd, hoa, Heap.SameBut.refl _ _⟩
    · rintro x rest b s' ⟨h', i, rfl, hr, hi, hd', hoa', hs'⟩
      have hlt : i < esa.size := by
        rcases Nat.lt_or_ge i esa.size with h | h
        · exact h
        · rw [Nat.sub_eq_zero_of_le h] at hr
          simp at hr
      obtain ⟨rfl, hrest⟩ : x = i ∧ rest = List.range' (i + 1) (esa.size - (i + 1)) := by
        have e : esa.size - i = (esa.size - (i + 1)) + 1 := by omega
        rw [e, List.range'_succ] at hr
        injection hr with h1 h2
        exact ⟨h1, h2⟩
      obtain ⟨kv, hkv⟩ : ∃ kv, kvs[x]? = some kv := ⟨kvs[x]'(by rw [hlen]; exact hlt), List.getElem?_eq_getElem _⟩
      obtain ⟨k, v⟩ := kv
      obtain ⟨hkey, hval⟩ := hpa.get? (e := esa[x]) (by simp [hlt]) hkv
      obtain ⟨k', hkey', hhash⟩ := hka esa[x] (Array.getElem_mem hlt)
      obtain rfl : k' = k := knd.inj _ _ _ hkey' hkey
      have hmx : (merged ds (kvs.take x)).length ≤ sizeLine := by
        have e1 := merged_length_le ds (kvs.take x)
        have e2 : (kvs.take x).length ≤ kvs.length := by
          rw [List.length_take]
          omega
        omega
      refine hf x h' esa[x] _ hlt hoa' (Array.getElem?_eq_getElem hlt) ?_
      rw [hhash, hval]
      refine wpAny_put (s := { s with heap := h' }) hkey hd' (fun h'' hd'' hs'' => ?_) hmx
      have hoa'' : h''.get? a = some oa := (hs''.2 a hne).trans hoa'
      exact ⟨h'', rfl, hoa'', h'', x + 1, rfl, hrest, hlt, by rw [merged_take_succ ds kvs x (k', v) hkv]; exact hd'', hoa'', hs'.trans hs''⟩
    · rintro b s' ⟨h', i, rfl, hr, hi, hd', hoa', hs'⟩
      have hin : i = esa.size := by
        rcases Nat.lt_or_ge i esa.size with h | h
        · have e : esa.size - i = (esa.size - (i + 1)) + 1 := by omega
          rw [e, List.range'_succ] at hr
          exact nomatch hr
        · exact Nat.le_antisymm hi h
      rw [hin, ← hlen, List.take_length] at hd'
      exact hR h' hd' hs'
  rcases first with e1 | e1
  · rw [if_pos e1]
    refine wpAny_bind (wpAny_dictEntries hoa hda (wpAny_bind ?_))
    rw [← Array.forIn_toList]
    refine wpAny_forIn_list _ (fun rest _ s' => s' = s ∧ ∀ e ∈ rest, ∀ x, e.key ≠ .ref x) _ ?_ ?_ _ _ ⟨rfl, fun e he => noRef e (Array.mem_toList_iff.mp he)⟩
    · rintro x rest b s' ⟨rfl, h⟩
      have h1 := h x (List.mem_cons_self ..)
      have h2 : ∀ e ∈ rest, ∀ y, e.key ≠ .ref y := fun e he => h e (List.mem_cons_of_mem _ he)
      cases hk : x.key with
      | ref y => exact absurd hk (h1 y)
      | _ => exact wpAny_pure ⟨rfl, h2⟩
    · rintro b s' ⟨rfl, _⟩
      refine wpAny_bind (wpAny_dictEntries hoa hda (wpAny_bind (wpAny_dictEpoch hoa hda (wpAny_bind (go _ _ ?_ fun h' h1 h2 => wpAny_pure (hQ h' h1 h2))))))
      intro i h' e T hi hoa' hei hput
      refine wpAny_bind (wpAny_dictEntries hoa' hda ?_)
      rw [hei]
      refine wpAny_bind (wpAny_holding ?_)
      rw [if_neg Bool.false_ne_true]
      refine wpAny_mono hput ?_ (fun _ _ z => z)
      rintro _ s' ⟨h'', rfl, hoa'', hT'⟩
      refine wpAny_bind (wpAny_dictEpoch hoa'' hda ?_)
      rw [if_neg (by simp)]
      exact wpAny_pure hT'
  · rw [if_neg (by rw [e1]; exact Bool.false_ne_true)]
    refine wpAny_bind (wpAny_dictEntries hoa hda (wpAny_bind (wpAny_dictEpoch hoa hda (wpAny_bind (go _ _ ?_ fun h' h1 h2 => wpAny_pure (hQ h' h1 h2))))))
    intro i h' e T hi hoa' hei hput
    refine wpAny_bind (wpAny_dictEntries hoa' hda ?_)
    rw [hei]
    refine wpAny_bind (wpAny_holding ?_)
    rw [if_neg Bool.false_ne_true]
    refine wpAny_mono hput ?_ (fun _ _ z => z)
    rintro _ s' ⟨h'', rfl, hoa'', hT'⟩
    refine wpAny_bind (wpAny_dictEpoch hoa'' hda ?_)
    rw [if_neg (by simp)]
    exact wpAny_pure hT'
end
end PySem

set_option Elab.async false
set_option linter.all false
set_option maxRecDepth 100000
set_option maxHeartbeats 4000000
/-! {**d, k: v}, over the layer -/
namespace PySem
/-- the tree of such a display -/
theorem display_two {M : Model} {A : Around} {E : Value → Shared → Prop} {Q : Value → Shared → Prop} {s : Shared} (m k v : Sem Value)
    (h : wpAny M A m (fun x s1 => wpAny M A (mergeMapping s.heap.objs.size x false) (fun _ s2 => wpAny M A (subDict [(k, v)]) (fun sub s3 => wpAny M A (mergeMapping s.heap.objs.size (.ref sub) false) (fun _ s4 => Q (.ref s.heap.objs.size) s4) (fun _ _ => False) s3) E s2) (fun _ _ => False) s1) E
      { s with heap := s.heap.push { cls := .type "dict", data := .dict #[] } }) :
    wpAny M A (dictDisplay [(none, m), (some k, v)]) Q E s := by
  unfold dictDisplay
  dsimp only
  simp only [List.forIn_cons, List.forIn_nil, List.isEmpty_nil, if_true, pure_bind, bind_assoc]
  refine wpAny_bind (wpAny_alloc (wpAny_bind (wpAny_holding (wpAny_mono h (fun x s1 h1 => ?_) fun _ _ z => z))))
  refine wpAny_bind (wpAny_onRaise (wpAny_tryCatch (wpAny_onRaise (wpAny_holding (wpAny_mono h1 (fun _ s2 h2 => ?_) fun _ _ z => z.elim)))))
  simp only [List.nil_append, List.length_singleton, show ((1 : Nat) == 17) = false from rfl, Bool.false_eq_true, if_false, pure_bind, List.isEmpty_cons, bind_assoc]
  refine wpAny_bind (wpAny_holding (wpAny_mono h2 (fun sub s3 h3 => ?_) fun _ _ z => z))
  refine wpAny_bind (wpAny_onRaise (wpAny_holding (wpAny_mono h3 (fun _ s4 h4 => ?_) fun _ _ z => z.elim)))
  exact wpAny_pure h4
end PySem
namespace L2
open PySem PySem.Spec PyProof.Rows
/-- {**e, k: v}: the new dict at p stands empty while e is read, the one pair's dict at q while k and v are -/
def tTake (te tk tv : TE) : TE := fun σ H Q => ∀ p, H p = none → te σ (upd H p (.dK [])) fun x H1 => ∃ (a : Addr) (kvs : List (Key × V)), x = .ref a ∧ a ≠ p ∧ H1 a = some (.dK kvs) ∧ H1 p = some (.dK []) ∧ kvs.length ≤ 1000 ∧
  ∀ q, (upd H1 p (.dK (mergeK [] kvs))) q = none → tk σ (upd (upd H1 p (.dK (mergeK [] kvs))) q (.dK [])) fun y H2 => tv σ H2 fun z H3 => ∃ k : Key, y = kV k ∧ H3 p = some (.dK (mergeK [] kvs)) ∧ H3 q = some (.dK []) ∧
    Q (.ref p) (upd (upd H3 q (.dK [(k, z)])) p (.dK (putK (mergeK [] kvs) k z)))
theorem pe_take {X : Cx} {e k v : Expr} {pos : Pos} {te tk tv : TE} (he : PE X e te) (hk : PE X k tk) (hv : PE X v tv) : PE X (.Dict [none, some k] [e, v] pos) (tTake te tk tv) := by
  constructor
  intro pins s σ H Q I read
  rw [arm_eval_Dict]
  refine wpAny_bind (wpAny_standAt ?_)
  show wpAny _ _ (dictDisplay [(none, do let x ← eval e X.env; standAt pos; pure x), (some (eval k X.env), do let x ← eval v X.env; standAt pos; pure x)]) _ _ _
  refine display_two _ _ _ ?_
  have hn := I.hok.fresh (Nat.le_refl s.heap.objs.size)
  have I1 := I.laid (a := s.heap.objs.size) (o := .dK []) (h' := s.heap.push { cls := .type "dict", data := .dict #[] }) (t' := s.toks) (fun _ _ q => Heap.get?_push_of_some _ q) (Nat.le_refl _) (dk_empty s.heap I.big)
  refine wpAny_bind (thn (he.run pins _ σ _ _ I1 (read _ hn)) ?_)
  rintro u s1 ⟨x, H1, J1, rx, a, kvs, rfl, hap, ha, hp, hz, q2⟩
  refine wpAny_bind (wpAny_standAt (wpAny_pure ?_))
  obtain rfl : u = Value.ref a := rx
  obtain ⟨za, sa, vs, rel, dd⟩ := dk_of J1.hok ha
  obtain ⟨zp, sp, vs0, r0, dd0⟩ := dk_of J1.hok hp
  cases r0
  have lvs : vs.length = kvs.length := rel.length.symm
  refine wpAny_merge (knd := mixKind X.prog X.w) hap sa dd0 dd (fun h2 d2 sb2 => ?_) (by
    show 0 + vs.length ≤ sizeLine
    rw [sizeLine_eq]
    omega)
  have e2 : ∃ o, h2.get? s.heap.objs.size = some o := let ⟨o, _, _, ho, _⟩ := d2; ⟨o, ho⟩
  have hm : (mergeK [] kvs).length ≤ 1000 := by
    have h1 := length_mergeK kvs []
    rw [List.length_nil] at h1
    omega
  have J2 := d_write (t' := s1.toks) J1 (by rw [hp]; exact True.intro) sb2 e2 (dk_new (by rw [sizeLine_eq]; omega) sp (rel.merge .nil) d2)
  have hq := J2.hok.fresh (Nat.le_refl h2.objs.size)
  have J3 := J2.laid (a := h2.objs.size) (o := .dK []) (h' := h2.push { cls := .type "dict", data := .dict #[] }) (t' := s1.toks) (fun _ _ q => Heap.get?_push_of_some _ q) (Nat.le_refl _) (dk_empty h2 J2.big)
  have one : PPs X pos [some k] [v] [(tk, tv)] := pps_cons hk hv pps_nil
  refine wpAny_subDict (knd := mixKind X.prog X.w) (by show 1 ≤ 15; decide) ?_
  have walk := one.run pins _ σ _ (fun ps H3 => ∃ ky : Key, (ps.headD (.non, .non)).1 = kV ky ∧ H3 s.heap.objs.size = some (.dK (mergeK [] kvs)) ∧ H3 h2.objs.size = some (.dK []) ∧
    Q (.ref s.heap.objs.size) (upd (upd H3 h2.objs.size (.dK [(ky, (ps.headD (.non, .non)).2)])) s.heap.objs.size (.dK (putK (mergeK [] kvs) ky (ps.headD (.non, .non)).2)))) J3 (q2 _ hq)
  refine thn (wpAny_evalPairs_len walk) ?_
  · rintro ws s3 ⟨lw, ps, H3, J4, rvv, ky, hky, hp3, hq3, fin⟩
    obtain ⟨y, z, rfl⟩ : ∃ y z, ps = [(y, z)] := by
      have l1 : ps.length = 1 := (Paired.length rvv).trans lw
      match ps, l1 with
      | [(y, z)], _ => exact ⟨y, z, rfl⟩
    obtain rfl : y = kV ky := hky
    obtain ⟨rs, c, rk⟩ := carries_of (P := X.prog) (w := X.w) (kvs := [(ky, z)]) rvv
    obtain ⟨zq, sq, vq0, rq0, dq0⟩ := dk_of J4.hok hq3
    cases rq0
    refine ⟨rs, c, dq0, fun h4 d4 sb4 => ?_⟩
    have e4 : ∃ o, h4.get? h2.objs.size = some o := let ⟨o, _, _, ho, _⟩ := d4; ⟨o, ho⟩
    have hqp : h2.objs.size ≠ s.heap.objs.size := fun e => by
      rw [e, upd_same] at hq
      cases hq
    have J5 := d_write (t' := s3.toks + ws.length) J4 (by rw [hq3]; exact True.intro) sb4 e4 (dk_new (kvs := mergeK [] [(ky, z)]) (by
      rw [sizeLine_eq]
      have : (mergeK [] [(ky, z)]).length ≤ 1 := length_mergeK [(ky, z)] []
      omega) sq (rk.merge .nil) d4)
    have hp5 : (upd H3 h2.objs.size (.dK (mergeK [] [(ky, z)]))) s.heap.objs.size = some (.dK (mergeK [] kvs)) := by
      rw [upd_ne (Ne.symm hqp)]
      exact hp3
    obtain ⟨zp5, sp5, vp, rp, dp⟩ := dk_of J5.hok hp5
    have lrs : rs.length = 1 := rk.length.symm
    have lvp : vp.length ≤ 1000 := by
      rw [← rp.length]
      exact hm
    have lm := merged_length_le ([] : List (Key × Value)) rs
    refine wpAny_merge (knd := mixKind X.prog X.w) hqp sq dp d4 (fun h6 d6 sb6 => ?_) (by
      rw [List.length_nil] at lm
      rw [sizeLine_eq]
      omega)
    have e6 : ∃ o, h6.get? s.heap.objs.size = some o := let ⟨o, _, _, ho, _⟩ := d6; ⟨o, ho⟩
    have lk := length_mergeK (mergeK [] [(ky, z)]) (mergeK [] kvs)
    have J6 := d_write (t' := s3.toks + ws.length) J5 (by rw [hp5]; exact True.intro) sb6 e6 (dk_new (kvs := mergeK (mergeK [] kvs) (mergeK [] [(ky, z)])) (by
      rw [sizeLine_eq]
      have : (mergeK [] [(ky, z)]).length ≤ 1 := length_mergeK [(ky, z)] []
      omega) sp5 ((rk.merge .nil).merge rp) d6)
    exact ⟨.ref s.heap.objs.size, _, J6, rfl, fin⟩
end L2

set_option Elab.async false
set_option linter.all false
set_option maxRecDepth 100000
set_option maxHeartbeats 4000000
/-! enumerate(tuple) -/
namespace PySem
open Sem (wp)
open AutoSeq1 (wpAny_loadPart')
theorem meets_enumerate_new1 {v : Value} {o : Obj} {H : Heap → Prop} (B : Begins v o H) :
    Meets (Builtin.«enumerate.__new__» ⟨[.type "enumerate", v], []⟩) (fun _ R s => H s.heap ∧
      R (.ok (.ret (.ref (s.heap.push o).objs.size))) { s with heap := (s.heap.push o).push { cls := .type "enumerate", data := .fields #[.none, .bool false, .ref s.heap.objs.size, rawInt 0, .none, .none] } }) :=
  .of_wp fun prog w A R s h => by
    obtain ⟨hp, g, d, tk, os⟩ := s; obtain ⟨h1, h⟩ := h
    have hsub := sub_enumerate
    have q1 : ∀ {A' : Around} {E : Value → Shared → Prop} {Q : Value → Shared → Prop}, Q (.ref hp.objs.size) ⟨hp.push o, g, d, tk, os⟩ → wpAny (model prog w) A' (pyIter v) Q E ⟨hp, g, d, tk, os⟩ :=
      fun q => B.iter prog w _ _ ⟨hp, g, d, tk, os⟩ _ h1 q
    wp_walk using q1
    refine wpAny_stack_any fun st => wpAny_pure ?_
    split
    · rename_i c _ _ _ _ _
      cases (c == Value.type "enumerate")
      · wp_walk using q1
        exact ⟨_, rfl, h⟩
      · wp_walk using q1
        exact ⟨_, rfl, h⟩
    · wp_walk using q1
      exact ⟨_, rfl, h⟩
section
variable {prog : Program} {w : World} {A : Around} {E : Value → Shared → Prop} {s : Shared}
theorem enum_begins1 {v : Value} {o : Obj} {H : Heap → Prop} {Q : Value → Shared → Prop} (B : Begins v o H) (h1 : H s.heap)
    (h : ∀ h', IsEnum h' (s.heap.objs.size + 1) s.heap.objs.size 0 .none → h'.get? s.heap.objs.size = some o → h'.objs.size = s.heap.objs.size + 2 →
      (∀ b o, s.heap.get? b = some o → h'.get? b = some o) → Q (.ref (s.heap.objs.size + 1)) { s with heap := h' }) :
    wpAny (model prog w) A (call (.type "enumerate") [v]) Q E s := by
  refine callType_new F.called_enumerate (by decide) (F.typeCall_enumerate_1 _) (F.newCall_enumerate_1 _) (fun obj => F.args_object_init_2 obj _) F.entry_enumerate_new
    (meets_enumerate_new1 B) ⟨h1, ?_⟩
  have hz : (s.heap.push o).objs.size = s.heap.objs.size + 1 := Heap.size_push ..
  show _ ∧ _
  rw [hz]
  have he : IsEnum ((s.heap.push o).push { cls := .type "enumerate", data := .fields #[.none, .bool false, .ref s.heap.objs.size, rawInt 0, .none, .none] }) (s.heap.objs.size + 1) s.heap.objs.size 0 .none := by
    have := Heap.get?_push_size (s.heap.push o) (o := { cls := .type "enumerate", data := .fields #[.none, .bool false, .ref s.heap.objs.size, rawInt 0, .none, .none] }) rfl
    rw [hz] at this; exact this
  refine ⟨⟨_, he, rfl⟩, h _ he (Heap.get?_push_of_some _ (Heap.get?_push_size _ B.free)) (by rw [Heap.size_push, hz]) fun b o x => Heap.get?_push_of_some _ (Heap.get?_push_of_some _ x)⟩
end
end PySem
namespace L2
open PySem PySem.Spec PyProof.Rows
/-- the tuple at a, each item in a new pair -/
def IteT (K : PySem.W.Frag) (a : Addr) : It :=
  ⟨fun i H => ∃ (xs : List V) (x : V), SqT K H a xs ∧ xs[i]? = some x, fun i H v H' => ∃ T x, v = .ref T ∧ H T = none ∧ H' = upd H T (.tup [.int (i : Nat), x]) ∧ ∀ xs, SqT K H a xs → xs[i]? = some x, fun i H => ∃ xs : List V, SqT K H a xs ∧ xs.length ≤ i⟩
theorem turn_enumT {P : Program} {w : World} {K : PySem.W.Frag} {elts : List Expr} {kk : Nat} {tpos : Pos} (a e it : Addr) (hai : a ≠ it) (hae : a ≠ e) :
    Turn P w K (.Tuple elts kk tpos) (IteT K a) [e, it] e (fun i h => (∃ old, IsEnum h e it ((i : Nat) : Int) old) ∧ h.IsTupleIter it a i ∧ e ≠ it) where
  mem := by simp
  obj := fun i h st b hb => by
    obtain ⟨⟨old, he⟩, ⟨o, ho, hc, hd⟩, _⟩ := st
    have e' : b = e ∨ b = it := by simpa using hb
    rcases e' with z | z
    · rw [z]; exact ⟨_, he, fun v q => nomatch q⟩
    · rw [z]; exact ⟨o, ho, fun v q => by rw [hd] at q; cases q⟩
  keep := fun i h h' st k => let ⟨⟨old, he⟩, hi, hne⟩ := st; ⟨⟨old, k e (by simp) _ he⟩, hi.at fun o q => k it (by simp) o q, hne⟩
  item := by
    intro X hP hw hK hc i pins s σ H E I hf st hg
    subst hP hw hK
    obtain ⟨⟨old, he⟩, hit, hne⟩ := st
    obtain ⟨xs, x, hq, hx⟩ := hg
    obtain ⟨its, rv, p, hz⟩ := I.tuple hq
    obtain ⟨u, hu, ru⟩ := rv.get hx
    have hel : e < s.heap.objs.size := Heap.lt_size he
    have hil : it < s.heap.objs.size := by obtain ⟨_, q, _⟩ := hit; exact Heap.lt_size q
    have hp : s.heap.IsTuple a its.toArray := p
    have hlt : i < its.toArray.size := by
      rcases Nat.lt_or_ge i its.toArray.size with z | z
      · exact z
      · have : its[i]? = none := by simpa using z
        rw [this] at hu; cases hu
    refine wpAny_pyNext_enum_itemD (Draws.tuple (A := X.A.in1) (show X.A.in1.handled = none from I.ok.hd hc) it a hai its.toArray) he ⟨hit, hp⟩ hlt hne (by simp only [List.mem_cons, List.not_mem_nil, or_false, not_or]; exact ⟨hne, Ne.symm hae⟩) fun y h' tk hy ho st' hT hsz hk => ?_
    obtain ⟨hit', hp'⟩ := st'
    have hyu : y = u := by
      have e1 : its.toArray[i]? = some u := by simpa using hu
      rw [e1] at hy; cases hy; rfl
    subst hyu
    refine ⟨_, rfl, wpAny_letOwnedTupleGo_enum (s := { s with heap := h', toks := tk + 1 }) ho fun h'' he' sb => ?_⟩
    have hT2 : h''.get? s.heap.objs.size = some { cls := .type "tuple", data := .seq #[.int i tk, y] } := (sb.2 _ (Nat.ne_of_gt hel)).trans hT
    have new : ObjOk X.prog X.w (upd H s.heap.objs.size (.tup [.int (i : Nat), x])) h'' s.heap.objs.size (.tup [.int (i : Nat), x]) :=
      ⟨by show 2 ≤ sizeLine; decide, [.int i tk, y], .cons ⟨_, rfl⟩ (.cons ru .nil), ⟨_, hT2, rfl, _, rfl⟩⟩
    have I1 : Inv X pins σ (upd H s.heap.objs.size (.tup [.int (i : Nat), x])) { s with heap := h'', toks := tk + 1 } :=
      I.turnedNew (ch := [e, it]) (fun b ob hb q => (sb.2 b (fun z => hb (by simp [z]))).trans (hk b ob (fun z => hb (by simp [z])) (fun z => hb (by simp [z])) q)) hf (Nat.le_refl _) new
    refine ⟨.ref s.heap.objs.size, _, I1, rfl, ⟨_, x, rfl, I.hok.fresh (Nat.le_refl _), rfl, fun ys hy => by rw [I.tuple_inj hy hq]; exact hx⟩, ⟨⟨y, ?_⟩, hit'.at fun o q => (sb.2 it (Ne.symm hne)).trans q, hne⟩, fun b hb => ?_⟩
    · have e1 : ((i + 1 : Nat) : Int) = (i : Int) + 1 := by omega
      rw [e1]; exact he'
    · have hb' : b < s.heap.objs.size := by
        have e' : b = e ∨ b = it := by simpa using hb
        rcases e' with z | z
        · rw [z]; exact hel
        · rw [z]; exact hil
      rw [upd_ne (Nat.ne_of_lt hb')]
      exact (hf b hb).1
  done := by
    intro X hP hw hK hc i pins s σ H E I hf st hg
    subst hP hw hK
    obtain ⟨⟨old, he⟩, hit, hne⟩ := st
    obtain ⟨xs, hq, hx⟩ := hg
    obtain ⟨its, rv, p, hz⟩ := I.tuple hq
    obtain ⟨f0, f1, f2, f3, f4, f5⟩ := hf it (by simp)
    have hl := rv.length
    have hp : s.heap.IsTuple a its.toArray := p
    have hnone : its.toArray[i]? = none := by simp; omega
    have hT : s.TypeIs (.ref e) "enumerate" := ⟨_, he, rfl⟩
    unfold pyNext
    refine wpAny_bind (wpAny_attempt (wpAny_callSpecial?_slot (name := Str.ofString "__next__") hT F.slot_enumerate_next
      (wpAny_call_entry F.slot_enumerate_next hT F.entry_enumerate_next ?_ (F.args_enumerate_next_1 _))))
    show wpAny _ _ (field (.ref e) 2 >>= _) _ _ _
    refine wpAny_bind (wpAny_field he rfl (x := .ref it) rfl ?_)
    refine wpAny_bind (wpAny_nextOf_tuple_end (I.ok.hd hc) hit hp hnone fun h' x eb hx' => ?_)
    obtain ⟨o, ho, hcl⟩ := hx'
    refine wpAny_bind (wpAny_isInstance (T := "StopIteration") (b := true) ⟨o, ho, hcl⟩ isSubtype_stop ?_)
    exact wpAny_pure ⟨rfl, I.turned (t' := s.toks) (fun b o hb q => eb b o hb q) f0 f1 f3 f4 f5⟩
  self := fun A i s Q E st h => let ⟨⟨_, he⟩, _⟩ := st; wpAny_pyIter_enum he h
def iEnumT (K : PySem.W.Frag) (ta : TA) : TI := fun σ H R => ta σ H fun vs H1 => ∃ a xs, vs = [.ref a] ∧ SqT K H1 a xs ∧ R (IteT K a) H1
theorem pi_enumT {X : Cx} {e : Expr} {ta : TA} {p pos tpos : Pos} {elts : List Expr} {kk : Nat} (hg : Gl X "enumerate") (hm : X.mg "enumerate" = none) (ha : PA X [e] ta) (hs : starEach [e] X.env = [(false, eval e X.env)] := by rfl) :
    PI X (.Tuple elts kk tpos) (.Call (.Name "enumerate" p) [e] [] pos) (iEnumT X.K ta) := by
  refine ⟨fun pins s σ H R I h => ?_⟩
  refine Call_ (ld_blt I hg hm boot_enumerate (PyProof.Rows.callWith_type1 (thn (ha.run pos pins s σ H _ I h) fun us s1 ⟨vs, H1, I1, r1, q1⟩ => ?_) hs rfl))
  obtain ⟨a, xs, ex, hq, q⟩ := q1
  subst ex
  cases r1 with
  | cons r rr =>
    cases rr
    cases r
    obtain ⟨its, rv, p', hz⟩ := I1.tuple hq
    have hp : s1.heap.IsTuple a its.toArray := p'
    have hal : a < s1.heap.objs.size := by obtain ⟨_, z, _⟩ := hp; exact Heap.lt_size z
    refine enum_begins1 (begins_tuple a its.toArray) hp fun h' he hit hsz hk => wpAny_pyIter_enum he ?_
    have I2 : Inv X pins σ H1 { s1 with heap := h' } := I1.kept (t' := s1.toks) hk
    refine ⟨s1.heap.objs.size + 1, [s1.heap.objs.size + 1, s1.heap.objs.size], _, _, H1, rfl, I2, turn_enumT a (s1.heap.objs.size + 1) s1.heap.objs.size (Nat.ne_of_lt hal) (Nat.ne_of_lt (Nat.lt_succ_of_lt hal)), ⟨⟨.none, he⟩, ⟨_, hit, rfl, rfl⟩, Nat.succ_ne_self _⟩, fun b hb => ?_, q⟩
    have e' : b = s1.heap.objs.size + 1 ∨ b = s1.heap.objs.size := by simpa using hb
    have hle : s1.heap.objs.size ≤ b := by
      rcases e' with z | z
      · rw [z]; exact Nat.le_add_right _ _
      · rw [z]; exact Nat.le_refl _
    exact I1.fpOk hle (I1.hok.fresh hle)
end L2

set_option Elab.async false
set_option linter.all false
set_option maxRecDepth 100000
set_option maxHeartbeats 4000000
/-! {k: v for target in iter if ..} with keys that are tuples of ints and texts -/
namespace L2
open PySem PySem.Spec PyProof.Rows
theorem putT {X : Cx} {pins : List (Addr × Obj)} {σ : St} {H : Hp} {s : Shared} {E : Value → Shared → Prop} {D b : Addr} {kvs : List (List Key × V)} {k : List Key} {v : V} {r : Value} {Q : Unit → Shared → Prop} (hu : X.A.units + 1 < cLine) (I : Inv X pins σ H s) (hD : H D = some (.dT kvs)) (hb : H b = some (.tup (k.map kV)))
    (hz : kvs.length < sizeLine) (rv : RelV v r) (h : ∀ s', Inv X pins σ (upd H D (.dT (putK kvs k v))) s' → Q () s') : wpAny (model X.prog X.w) X.A (dictSet D (.ref b) r) Q E s := by
  obtain ⟨z, hd, xs, rel, dd⟩ := dt_of I.hok hD
  have lx : xs.length ≤ sizeLine := by
    rw [← Paired.length rel]
    exact z
  have ln : (putK kvs k v).length ≤ sizeLine := by
    have := length_putK kvs k v
    omega
  refine wpAny_dictSet_heap (hsz := lx) (show (tupleKind (mixKind X.prog X.w)).room X.A from Nat.lt_of_succ_lt hu) (key_of I.hok hb) dd fun h' dd' hs => h _ ?_
  obtain ⟨q, es, ep, hq, h2, h3, h4, _, h5⟩ := dd'
  refine d_write I (by rw [hD]; exact True.intro) hs ⟨q, hq⟩ ⟨ln, hd, _, (rel.put k hb rv).keeps fun c ys ec => ?_, q, es, ep, hq, h2, h3, h4, h5⟩
  rw [upd_ne (ne_of ec hD (fun z => nomatch z))]
  exact ec
section
variable {X : Cx}
/-- D: the new dict -/
def tDcT (wi : TI) (g : TG) (tt : TT) (tk tv : TE) (vs : List Nat) : TE := fun σ H Q => wi σ H fun J H1 => ∀ D, H1 D = none → ∃ W : Nat → Nat → Hp → Prop, (∃ m, W 0 m (upd H1 D (.dT []))) ∧ ∀ i m H, W i m H →
  (J.stop i H ∧ Q (.ref D) H) ∨ (J.go i H ∧ ∃ Nx : Hp → Prop, (∀ H', Nx H' → ∃ m', m' < m ∧ W (i + 1) m' H') ∧ ∀ x H', J.yld i H x H' → g x (wipe σ vs) H' fun σ2 H2 => wipe σ2 vs = wipe σ vs ∧ tt σ2 H2 fun b H3 =>
    if b = true then tk σ2 H3 fun y H4 => tv σ2 H4 fun z H5 => ∃ (kvs : List (List Key × V)) (k : List Key) (b : Addr), y = .ref b ∧ H5 b = some (.tup (k.map kV)) ∧ H5 D = some (.dT kvs) ∧ kvs.length < sizeLine ∧ Nx (upd H5 D (.dT (putK kvs k z))) else Nx H3)
theorem dcT_core {pins : List (Addr × Obj)} {s : Shared} {σ : St} {H : Hp} {Q : VK} {kx vx tg iter : Expr} {ifs : List Expr} {scope : Scope} {own : List (Str × Nat)} {pos pos' : Pos} {wi : TI} {g : TG} {tt : TT} {tk tv : TE} {use : Option (Value → Sem Unit)} {Qf : Value → Shared → Prop}
    (hu : X.A.units + 1 < cLine) (hc : X.calm = true) (hN : X.N.Nodup) (I : Inv X pins σ H s) (hi : PI X tg iter wi) (ok : BlkOk X.N X.env.scope scope own)
    (hg : ∀ (s : Shared) (H : Hp) (C : Addr) (cl : List (Str × Addr)) (fp : List Addr), PG (X.blk s H scope (compEnvC scope cl C X.env) fp) tg g) (ht : ∀ (s : Shared) (H : Hp) (C : Addr) (cl : List (Str × Addr)) (fp : List Addr), PTs (X.blk s H scope (compEnvC scope cl C X.env) fp) ifs tt)
    (hk : ∀ (s : Shared) (H : Hp) (C : Addr) (cl : List (Str × Addr)) (fp : List Addr), PE (X.blk s H scope (compEnvC scope cl C X.env) fp) kx tk)
    (he : ∀ (s : Shared) (H : Hp) (C : Addr) (cl : List (Str × Addr)) (fp : List Addr), PE (X.blk s H scope (compEnvC scope cl C X.env) fp) vx tv) (hs : ∀ x, foldedSetIterable iter X.env x = pure x)
    (h : tDcT wi g tt tk tv (own.map (·.2)) σ H Q)
    (last : ∀ D C s' m H', Inv X pins σ H' s' → Q (.ref D) H' → s'.heap.Ns C m → FpOk X pins H' C → compPost (model X.prog X.w) X.A X.xe use Qf (.ref D) C (.ok .next) s') :
    wpAny (model X.prog X.w) X.A (comprehension (.DictComp kx vx [⟨tg, iter, ifs, 0⟩] scope pos) scope X.env pos' newDict false (eval iter X.env) use) Qf X.xe s := by
  have hfree : ∀ y ∈ scope.names, y.2 = .free → ∃ c, X.env.cells.lookup y.1 = some c := by
    intro y hy e
    rcases ok.free y hy e with k | k
    · exact I.ok.has _ (.inl k)
    · exact I.ok.has _ (.inr k)
  refine wpAny_comprehension_free (use := use) rfl hs (closure_ok hfree) ok.kind (fun y hy e => by rw [ok.uniq y hy, e]) (thn (hi.run pins s σ H _ I h) ?_)
  intro xv s1 hx
  refine thn hx ?_
  rintro itv s2 ⟨it, fp, tn, J, H2, rfl, I2, T, st2, f2, q⟩
  refine wpAny_newObj_type (newEnv_comp ?_)
  have hDn : H2 s2.heap.objs.size = none := I2.hok.fresh (Nat.le_refl _)
  obtain ⟨W, ⟨m0, w0⟩, turn⟩ := q _ hDn
  -- the new dict
  have I3 : Inv X pins σ (upd H2 s2.heap.objs.size (.dT [])) { s2 with heap := s2.heap.push { cls := .type "dict", data := .dict #[] } } :=
    I2.laid (t' := s2.toks) (fun b o e => Heap.get?_push_of_some _ e) (Nat.le_refl _) (dt_empty s2.heap I2.big)
  have sz : ∀ b ∈ fp, b < s2.heap.objs.size := fun b hb => Heap.lt_size (T.obj _ _ st2 b hb).choose_spec.1
  have f3 : ∀ b ∈ fp, FpOk X pins (upd H2 s2.heap.objs.size (.dT [])) b ∧ b < (s2.heap.push { cls := .type "dict", data := .dict #[] }).objs.size := fun b hb => by
    refine ⟨⟨?_, (f2 b hb).2⟩, by rw [Heap.size_push]; exact Nat.lt_succ_of_lt (sz b hb)⟩
    rw [upd_ne (Nat.ne_of_lt (sz b hb))]
    exact (f2 b hb).1
  have st3 : tn 0 (s2.heap.push { cls := .type "dict", data := .dict #[] }) := T.keep _ _ _ st2 fun b _ o e => Heap.get?_push_of_some _ e
  revert I3 f3 st3 w0 turn
  generalize s2.heap.objs.size = D
  generalize upd H2 D (.dT []) = H3
  generalize e3 : ({ s2 with heap := s2.heap.push { cls := .type "dict", data := .dict #[] } } : Shared) = s3
  have h3 : s2.heap.push { cls := .type "dict", data := .dict #[] } = s3.heap := by rw [← e3]
  rw [h3]
  intro turn w0 I3 f3 st3
  have I4 := block_start I3 ok hN f3
  have pg := hg s3 H3 s3.heap.objs.size (cellsFrom (s3.heap.objs.size + 1) scope.names (cloFrom X.env.cells scope.names [])) fp
  have pt := ht s3 H3 s3.heap.objs.size (cellsFrom (s3.heap.objs.size + 1) scope.names (cloFrom X.env.cells scope.names [])) fp
  have pk := hk s3 H3 s3.heap.objs.size (cellsFrom (s3.heap.objs.size + 1) scope.names (cloFrom X.env.cells scope.names [])) fp
  have pe := he s3 H3 s3.heap.objs.size (cellsFrom (s3.heap.objs.size + 1) scope.names (cloFrom X.env.cells scope.names [])) fp
  refine (show codeAny _ _ (.compStart (.DictComp kx vx [⟨tg, iter, ifs, 0⟩] scope pos) 0 (.ref it) (.ref D) (compEnvC scope (cellsFrom (s3.heap.objs.size + 1) scope.names (cloFrom X.env.cells scope.names [])) s3.heap.objs.size X.env)) (compPost (model X.prog X.w) X.A X.xe use Qf (.ref D) s3.heap.objs.size) { s3 with heap := pushCells (s3.heap.push { cls := .type "dict", data := .dict #[] }) scope.names } from ?_)
  have cL : (compEnvC scope (cellsFrom (s3.heap.objs.size + 1) scope.names (cloFrom X.env.cells scope.names [])) s3.heap.objs.size X.env).locals = s3.heap.objs.size := rfl
  revert I4 pg pt pk pe cL
  generalize compEnvC scope (cellsFrom (s3.heap.objs.size + 1) scope.names (cloFrom X.env.cells scope.names [])) s3.heap.objs.size X.env = ce
  intro I4 pg pt pk pe cL
  generalize hs4 : ({ s3 with heap := pushCells (s3.heap.push { cls := .type "dict", data := .dict #[] }) scope.names } : Shared) = s4 at I4 ⊢
  have st4 : tn 0 s4.heap := T.keep _ _ _ st3 fun b _ o e => by
    rw [← hs4]
    exact pushCells_keeps _ _ _ _ (Heap.get?_push_of_some _ e)
  have stat : ∀ {σ' : St} {H' : Hp} {s' : Shared}, Inv (X.blk s3 H3 scope ce fp) [] σ' H' s' → (∀ b ∈ fp, H' b = none) → ∀ b ∈ fp, FpOk (X.blk s3 H3 scope ce fp) [] H' b := fun {σ' H' s'} I' hn b hb =>
    ⟨hn b hb, (I'.ok.exf b hb).1, I'.ok.exfs b hb, .inl hb, fun x c e => (I'.ok.exf b hb).2 x c e, fun p hp => by cases hp⟩
  have loop : codeAny (model X.prog X.w) X.A (.compLoop (.DictComp kx vx [⟨tg, iter, ifs, 0⟩] scope pos) 0 (.ref it) (.ref D) ce) (compPost (model X.prog X.w) X.A X.xe use Qf (.ref D) s3.heap.objs.size) s4 := by
    refine compLoop_anyD (fun n s' => ∃ i H', Inv (X.blk s3 H3 scope ce fp) [] (wipe σ (own.map (·.2))) H' s' ∧ tn i s'.heap ∧ (∀ b ∈ fp, H' b = none) ∧ W i n H') ?_ m0 ⟨0, H3, I4, st4, fun b hb => (f3 b hb).1.1, w0⟩
    rintro n s5 ⟨i, H5, I5, st5, n5, w5⟩
    rcases turn i n H5 w5 with ⟨stop, qq⟩ | ⟨go, Nx, hNx, step⟩
    · refine thnF (T.done (X.blk s3 H3 scope ce fp) rfl rfl rfl hc i [] s5 _ H5 (fun _ _ => False) I5 (stat I5 n5) st5 stop) ?_
      rintro r s6 ⟨rfl, I6⟩
      have I7 : Inv X pins σ H5 s6 := I3.call' (ch := fp) I6.os I6.base I6.hok I6.bare fun b hb => ⟨(f3 b hb).1.2.2.2.1, (f3 b hb).1.2.1, (f3 b hb).1.2.2.2.2.1, (f3 b hb).1.2.2.2.2.2⟩
      have nC : H5 s3.heap.objs.size = none := by
        have z : H5 ce.locals = none := I6.free
        rw [cL] at z
        exact z
      obtain ⟨m, hn, _⟩ := I6.loc
      have hn : s6.heap.Ns ce.locals m := hn
      rw [cL] at hn
      exact last D s3.heap.objs.size s6 m H5 I7 qq hn (I3.fpOk (Nat.le_refl _) nC)
    · refine thnF (T.item (X.blk s3 H3 scope ce fp) rfl rfl rfl hc i [] s5 _ H5 (fun _ _ => False) I5 (stat I5 n5) st5 go) ?_
      rintro r s6 ⟨u, rfl, h6⟩
      refine thnF h6 ?_
      rintro _ s7 ⟨x, H7, I7, r7, y7, st7, n7⟩
      refine thnF (pg.run _ s7 _ H7 x u _ (I7.pinned (stat I7 n7) (T.obj _ _ st7)) r7 (step x H7 y7)) ?_
      rintro _ s8 ⟨σ8, H8, I8, hw8, q8⟩
      refine thnF (pt.run _ s8 σ8 H8 _ I8 q8) ?_
      rintro b s9 ⟨H9, I9, q9⟩
      have fin : ∀ {s' : Shared} {H' : Hp}, Inv (X.blk s3 H3 scope ce fp) ([] ++ pinsAt fp s7.heap) σ8 H' s' → Nx H' → ∃ m, m < n ∧ ∃ i H', Inv (X.blk s3 H3 scope ce fp) [] (wipe σ (own.map (·.2))) H' s' ∧ tn i s'.heap ∧ (∀ b ∈ fp, H' b = none) ∧ W i m H' := by
        intro s' H' I' nx
        obtain ⟨m', hm, w'⟩ := hNx H' nx
        have pin' : ∀ b ∈ fp, ∀ o, s7.heap.get? b = some o → s'.heap.get? b = some o ∧ H' b = none := fun b hb o e =>
          let z := I'.pin (b, o) (List.mem_append_right _ (List.mem_append_right _ (mem_pinsAt hb e)))
          ⟨z.1, z.2.1⟩
        have hl : (wipe σ (own.map (·.2))).length = σ8.length := by rw [← hw8, wipe_length]
        refine ⟨m', hm, i + 1, H', (I'.unpinned (pins := [])).weak hl (fun j v e => ?_), T.keep _ _ _ st7 fun b hb o e => (pin' b hb o e).1, fun b hb => ?_, w'⟩
        · rw [← hw8] at e
          exact (wipe_some e).1
        · obtain ⟨o, e, _⟩ := T.obj _ _ st7 b hb
          exact (pin' b hb o e).2
      cases b with
      | false =>
        simp only [Bool.false_eq_true, if_false] at q9 ⊢
        exact fin I9 q9
      | true =>
        simp only [if_true] at q9 ⊢
        refine thnF (pk.run _ s9 σ8 H9 _ I9 q9) ?_
        rintro z s10 ⟨yk, H10, I10, r10, q10⟩
        refine thnF (pe.run _ s10 σ8 H10 _ I10 q10) ?_
        rintro z2 s11 ⟨yv, H11, I11, r11, kvs, k, bk, ek, hbk, hD11, hz11, nx⟩
        subst ek
        cases (show z = Value.ref bk from r10)
        exact putT (X := X.blk s3 H3 scope ce fp) hu I11 hD11 hbk hz11 r11 fun s12 I12 => fin I12 nx
  exact codeAny_compStart_dict loop (T.self X.A 0 _ _ _ st4 loop)
theorem pe_dcT {kx vx tg iter : Expr} {ifs : List Expr} {scope : Scope} {own : List (Str × Nat)} {pos : Pos} {wi : TI} {g : TG} {tt : TT} {tk tv : TE} (hu : X.A.units + 1 < cLine) (hc : X.calm = true) (hN : X.N.Nodup) (hi : PI X tg iter wi) (ok : BlkOk X.N X.env.scope scope own)
    (hg : ∀ (s : Shared) (H : Hp) (C : Addr) (cl : List (Str × Addr)) (fp : List Addr), PG (X.blk s H scope (compEnvC scope cl C X.env) fp) tg g) (ht : ∀ (s : Shared) (H : Hp) (C : Addr) (cl : List (Str × Addr)) (fp : List Addr), PTs (X.blk s H scope (compEnvC scope cl C X.env) fp) ifs tt)
    (hk : ∀ (s : Shared) (H : Hp) (C : Addr) (cl : List (Str × Addr)) (fp : List Addr), PE (X.blk s H scope (compEnvC scope cl C X.env) fp) kx tk)
    (he : ∀ (s : Shared) (H : Hp) (C : Addr) (cl : List (Str × Addr)) (fp : List Addr), PE (X.blk s H scope (compEnvC scope cl C X.env) fp) vx tv) (hs : ∀ x, foldedSetIterable iter X.env x = pure x := by intro _; rfl) :
    PE X (.DictComp kx vx [⟨tg, iter, ifs, 0⟩] scope pos) (tDcT wi g tt tk tv (own.map (·.2))) := by
  refine ⟨fun pins s σ H Q I h => ?_⟩
  rw [arm_eval_DictComp]
  refine dcT_core hu hc hN I hi ok hg ht hk he hs h ?_
  intro D C s' m H' I' q hn f
  refine ⟨m, hn, fun h'' sb => ?_⟩
  obtain ⟨f0, f1, f2, f3, f4, f5⟩ := f
  exact ⟨.ref D, H', I'.turned (t' := s'.toks) (fun b o hb e => (sb.2 b hb).trans e) f0 f1 f3 f4 f5, rfl, q⟩
theorem ps_setDcT {i : Nat} {y : Str} {py : Pos} {kx vx tg iter : Expr} {ifs : List Expr} {scope : Scope} {own : List (Str × Nat)} {pos spos : Pos} {wi : TI} {g : TG} {tt : TT} {tk tv : TE} (hu : X.A.units + 1 < cLine) (hc : X.calm = true) (hN : X.N.Nodup) (hy : X.N[i]? = some y) (hyl : X.env.scope.names.lookup y = some .local)
    (hsw : swapsWith (.DictComp kx vx [⟨tg, iter, ifs, 0⟩] scope pos) (some (.Name y py)) spos.line X.env = pure true) (hi : PI X tg iter wi) (ok : BlkOk X.N X.env.scope scope own)
    (hg : ∀ (s : Shared) (H : Hp) (C : Addr) (cl : List (Str × Addr)) (fp : List Addr), PG (X.blk s H scope (compEnvC scope cl C X.env) fp) tg g) (ht : ∀ (s : Shared) (H : Hp) (C : Addr) (cl : List (Str × Addr)) (fp : List Addr), PTs (X.blk s H scope (compEnvC scope cl C X.env) fp) ifs tt)
    (hk : ∀ (s : Shared) (H : Hp) (C : Addr) (cl : List (Str × Addr)) (fp : List Addr), PE (X.blk s H scope (compEnvC scope cl C X.env) fp) kx tk)
    (he : ∀ (s : Shared) (H : Hp) (C : Addr) (cl : List (Str × Addr)) (fp : List Addr), PE (X.blk s H scope (compEnvC scope cl C X.env) fp) vx tv) (hs : ∀ x, foldedSetIterable iter X.env x = pure x := by intro _; rfl) :
    PS X (.Assign [.Name y py] (.DictComp kx vx [⟨tg, iter, ifs, 0⟩] scope pos) spos) (tAsg (tDcT wi g tt tk tv (own.map (·.2))) (gName i)) := by
  refine ⟨fun pins s σ H D I h => ?_⟩
  rw [exec_Assign_Name_used _ _ _ _ hsw]
  refine wpAny_bind (wpAny_standAt (wpAny_bind ?_))
  have h : tDcT wi g tt tk tv (own.map (·.2)) σ H (fun x H1 => gName i x σ H1 D.nx) := h
  show wpAny _ X.A (do let _ ← comprehension (.DictComp kx vx [⟨tg, iter, ifs, 0⟩] scope pos) scope X.env (firstIterPos [⟨tg, iter, ifs, 0⟩] pos) newDict false (eval iter X.env) (some (assign (.Name y py) X.env))) _ _ s
  refine wpAny_bind (thn (dcT_core (Qf := fun _ s' => SP X pins D .next s') hu hc hN I hi ok hg ht hk he hs h ?_) fun _ s' hq => wpAny_pure (wpAny_pure hq))
  intro L C s' m H' I' q hn f
  obtain ⟨f0, f1, f2, f3, f4, f5⟩ := f
  refine wpAny_assign_Name (store_ok2 (v := V.ref L) I' hN hy (.inl hyl) rfl (fun s2 I2 hw => ?_) (.inr hyl))
  obtain ⟨a, sb, ha⟩ := hw
  have hne : C ≠ a := by
    intro e
    rcases ha with z | z
    · exact f1 (e.trans z)
    · exact f4 y a z e.symm
  exact ⟨m, hn.sameBut sb hne, fun h3 sb3 => ⟨_, H', I2.turned (t' := s2.toks) (fun b o hb e => (sb3.2 b hb).trans e) f0 f1 f3 f4 f5, q⟩⟩
theorem ps_setDc {i : Nat} {y : Str} {py : Pos} {kx vx tg iter : Expr} {ifs : List Expr} {scope : Scope} {own : List (Str × Nat)} {pos spos : Pos} {wi : TI} {g : TG} {tt : TT} {tk tv : TE} (hc : X.calm = true) (hN : X.N.Nodup) (hy : X.N[i]? = some y) (hyl : X.env.scope.names.lookup y = some .local)
    (hsw : swapsWith (.DictComp kx vx [⟨tg, iter, ifs, 0⟩] scope pos) (some (.Name y py)) spos.line X.env = pure true) (hi : PI X tg iter wi) (ok : BlkOk X.N X.env.scope scope own)
    (hg : ∀ (s : Shared) (H : Hp) (C : Addr) (cl : List (Str × Addr)) (fp : List Addr), PG (X.blk s H scope (compEnvC scope cl C X.env) fp) tg g) (ht : ∀ (s : Shared) (H : Hp) (C : Addr) (cl : List (Str × Addr)) (fp : List Addr), PTs (X.blk s H scope (compEnvC scope cl C X.env) fp) ifs tt)
    (hk : ∀ (s : Shared) (H : Hp) (C : Addr) (cl : List (Str × Addr)) (fp : List Addr), PE (X.blk s H scope (compEnvC scope cl C X.env) fp) kx tk)
    (he : ∀ (s : Shared) (H : Hp) (C : Addr) (cl : List (Str × Addr)) (fp : List Addr), PE (X.blk s H scope (compEnvC scope cl C X.env) fp) vx tv) (hs : ∀ x, foldedSetIterable iter X.env x = pure x := by intro _; rfl) :
    PS X (.Assign [.Name y py] (.DictComp kx vx [⟨tg, iter, ifs, 0⟩] scope pos) spos) (tAsg (tDc wi g tt tk tv (own.map (·.2))) (gName i)) := by
  refine ⟨fun pins s σ H D I h => ?_⟩
  rw [exec_Assign_Name_used _ _ _ _ hsw]
  refine wpAny_bind (wpAny_standAt (wpAny_bind ?_))
  have h : tDc wi g tt tk tv (own.map (·.2)) σ H (fun x H1 => gName i x σ H1 D.nx) := h
  show wpAny _ X.A (do let _ ← comprehension (.DictComp kx vx [⟨tg, iter, ifs, 0⟩] scope pos) scope X.env (firstIterPos [⟨tg, iter, ifs, 0⟩] pos) newDict false (eval iter X.env) (some (assign (.Name y py) X.env))) _ _ s
  refine wpAny_bind (thn (dc_core (Qf := fun _ s' => SP X pins D .next s') hc hN I hi ok hg ht hk he hs h ?_) fun _ s' hq => wpAny_pure (wpAny_pure hq))
  intro L C s' m H' I' q hn f
  obtain ⟨f0, f1, f2, f3, f4, f5⟩ := f
  refine wpAny_assign_Name (store_ok2 (v := V.ref L) I' hN hy (.inl hyl) rfl (fun s2 I2 hw => ?_) (.inr hyl))
  obtain ⟨a, sb, ha⟩ := hw
  have hne : C ≠ a := by
    intro e
    rcases ha with z | z
    · exact f1 (e.trans z)
    · exact f4 y a z e.symm
  exact ⟨m, hn.sameBut sb hne, fun h3 sb3 => ⟨_, H', I2.turned (t' := s2.toks) (fun b o hb e => (sb3.2 b hb).trans e) f0 f1 f3 f4 f5, q⟩⟩
theorem sw_dict {kx vx : Expr} {gs : List Comprehension} {scope : Scope} {pos py : Pos} {y : Str} {l : Nat} {env : Env} (hk : env.scope.kind = .function) (hy : env.scope.names.lookup y = some .local) (hl : (py.line == pos.line) = true)
    (ha : (scope.names.any fun (n, k) => n == y && (k == .local || k == .cell)) = false) : swapsWith (.DictComp kx vx gs scope pos) (some (.Name y py)) l env = pure true := by
  have hb : env.blockKind = .function := by
    unfold Env.blockKind
    rw [hk]
    rfl
  have ky : env.kindOf y = some .local := hy
  unfold swapsWith
  simp only [hb, ky, ha, Expr.pos, hl]
  rfl
end
section
variable {J : It} {n : Nat} {G : Hp → Prop} {Y : Nat → Hp → V → Hp → Prop}
/-- such a comprehension over a walk: Pv by the turn and the heap -/
theorem dcT_it (w : Walk J n G Y) {g : TG} {tt : TT} {tk tv : TE} {vs : List Nat} {σ : St} {H1 : Hp} {D : Addr} {Qd : Hp → Prop} (Pv : Nat → Hp → Prop) (h0 : Pv 0 (upd H1 D (.dT []))) (hG : ∀ i H, i ≤ n → Pv i H → G H)
    (hs : ∀ i x H H', i < n → Pv i H → Y i H x H' → g x (wipe σ vs) H' fun σ2 H2 => wipe σ2 vs = wipe σ vs ∧ tt σ2 H2 fun b H3 =>
      if b = true then tk σ2 H3 fun y H4 => tv σ2 H4 fun z H5 => ∃ (kvs : List (List Key × V)) (k : List Key) (b : Addr), y = .ref b ∧ H5 b = some (.tup (k.map kV)) ∧ H5 D = some (.dT kvs) ∧ kvs.length < sizeLine ∧ Pv (i + 1) (upd H5 D (.dT (putK kvs k z))) else Pv (i + 1) H3) (hd : ∀ H, Pv n H → Qd H) :
    ∃ W : Nat → Nat → Hp → Prop, (∃ m, W 0 m (upd H1 D (.dT []))) ∧ ∀ i m H, W i m H →
      (J.stop i H ∧ Qd H) ∨ (J.go i H ∧ ∃ Nx : Hp → Prop, (∀ H', Nx H' → ∃ m', m' < m ∧ W (i + 1) m' H') ∧ ∀ x H', J.yld i H x H' → g x (wipe σ vs) H' fun σ2 H2 => wipe σ2 vs = wipe σ vs ∧ tt σ2 H2 fun b H3 =>
        if b = true then tk σ2 H3 fun y H4 => tv σ2 H4 fun z H5 => ∃ (kvs : List (List Key × V)) (k : List Key) (b : Addr), y = .ref b ∧ H5 b = some (.tup (k.map kV)) ∧ H5 D = some (.dT kvs) ∧ kvs.length < sizeLine ∧ Nx (upd H5 D (.dT (putK kvs k z))) else Nx H3) := by
  refine ⟨fun i m H => m = n - i ∧ i ≤ n ∧ Pv i H, ⟨n, by simp, Nat.zero_le _, h0⟩, ?_⟩
  rintro i m H ⟨rfl, hi, p⟩
  rcases Nat.lt_or_ge i n with hlt | hge
  · exact .inr ⟨w.goes i H hlt (hG i H hi p), Pv (i + 1), fun H' p' => ⟨n - (i + 1), by omega, rfl, hlt, p'⟩, fun x H' y => hs i x H H' hlt p (w.yields i H x H' hlt (hG i H hi p) y)⟩
  · have e : i = n := Nat.le_antisymm hi hge
    subst e
    exact .inl ⟨w.stops H (hG _ H hi p), hd H p⟩
end
end L2

set_option Elab.async false
set_option linter.all false
set_option maxRecDepth 100000
set_option maxHeartbeats 4000000
/-! len(x), y in x, y not in x by own methods of x -/
namespace Pu
open PySem PySem.Spec PyProof.Rows L2
section
variable {X : Cx} {CX : CXT} {n : Nat} {f C : Addr} {fd : FuncData} {ps : List Str} {sp : Sp} {E : XK}
theorem own_run {A1 : Around} {pins : List (Addr × Obj)} {σ : L2.St} {H : Hp} {s : Shared} {vs : List V} {us : List Value} {Q : VK} (sb : Sub X n A1) (F : FnOk X.prog X.w X.K X.mg X.base CX n f fd ps sp) (b : Binds X.K fd ps []) (hx : Passes CX X E) (I : Inv X pins σ H s) (r : Vals vs us) (h : sp vs H Q E) :
    wpAny (model X.prog X.w) A1 (call (.ref f) us) (fun u s' => ∃ v H', Inv X pins σ H' s' ∧ RelV v u ∧ Q v H') X.xe s := by
  have e0 : Env0 X.prog X.w X.K X.mg X.base A1 X.stack s H := by
    obtain ⟨e1, e2, e3, e4, e5, e6, e7, e8⟩ := I.env0
    exact ⟨by rw [sb.fr]; exact e1, e2, e3, e4, e5, e6, e7, e8⟩
  have hb := b s us I.kIn (by rw [List.append_nil, ← r.length]; exact F.len _ _ _ _ h)
  rw [List.append_nil] at hb
  refine wpAny_call (codeAny_mono (F.run A1 X.stack s H ⟨us, []⟩ us vs Q E sb.room e0 hb r h) ?_)
  rintro (e | (_ | _ | _ | u)) s' q
  · exact hx pins σ H s e s' I q
  · exact (show False from q).elim
  · exact (show False from q).elim
  · exact (show False from q).elim
  · exact I.after q
/-- an own method of the class C -/
structure Own (X : Cx) (CX : CXT) (n : Nat) (C : Addr) (m : Str) (sp : Sp) : Prop where
  ex : ∃ (f : Addr) (fd : FuncData) (ps : List Str), FnOk X.prog X.w X.K X.mg X.base CX n f fd ps sp ∧ Binds X.K fd ps [] ∧ PySem.W.findIn X.K (.ref C) m = some (some (.ref f)) ∧ PySem.W.isFn X.K (.ref f) = true
theorem call_lenOwn (O : Own X CX n C "__len__" sp) (hr : Room (n + 1) X.A) (hx : Passes CX X E) :
    CallR X (.builtin "len") (fun xs H Q => ∃ a dx fs, xs = [.ref a] ∧ H a = some (.ins C dx fs) ∧ sp [.ref a] H (fun v H' => ∃ i : Nat, v = .int i ∧ i < 1000000 ∧ Q (.int i) H') E) := by
  intro pins s σ H xs us Q I r h
  obtain ⟨f, fd, ps, F, b, hl, hf⟩ := O.ex
  obtain ⟨a, dx, fs, rfl, ha, hq⟩ := h
  obtain ⟨u, rfl, ru⟩ := vals1 r
  obtain rfl : u = Value.ref a := ru
  obtain ⟨mA, J, _⟩ := ins_get I.hok ha
  obtain ⟨od, J, _⟩ := J.look
  refine Calls.call_function_entry kind_len plain_len entry_len (args_len1 _) ?_
  unfold Builtin.«len»
  refine wpAny_bind (m := oneArg "len" _) (wpAny_pure ?_)
  refine wpAny_bind (m := callSpecial? (.ref a) (PySem.Str.ofString "__len__")) (PySem.W.special_fn (name := PySem.Str.ofString "__len__") (args := []) I.kIn J hl (beq_iff_eq.mp hf) (wpAny_mono (own_run (Sub.in1 (⟨hr, rfl⟩ : Sub X (n + 1) X.A)) F b hx I r hq) ?_ fun _ _ z => z))
  rintro u2 s2 ⟨v, H2, I2, rv, i, rfl, hi, q⟩
  obtain ⟨t, rfl⟩ := (show ∃ t, u2 = Value.int i t from rv)
  refine wpAny_bind (wpAny_holding (wpAny_pure ?_))
  refine wpAny_bind (wpAny_letGo ?_)
  show wpAny _ _ (if ((i : Nat) : Int) < 0 then _ else _) _ _ _
  rw [if_neg (by omega)]
  show wpAny _ _ (if ((i : Nat) : Int) ≥ 2 ^ 63 then _ else _) _ _ _
  rw [if_neg (by omega)]
  exact wpAny_bind (wpAny_mkInt (wpAny_pure ⟨_, rfl, .int i, H2, I2.tok _, ⟨_, rfl⟩, q⟩))
/-- y in x, y not in x -/
def rOwnIn (C : Addr) (sp : Sp) (E : XK) (neg : Bool) : R2 := fun y x H Q => ∃ a dx fs, x = .ref a ∧ H a = some (.ins C dx fs) ∧ sp [.ref a, y] H (fun v H' => ∃ b : Bool, v = .bl b ∧ Q (.bl (if neg then !b else b)) H') E
theorem op_inOwn (O : Own X CX n C "__contains__" sp) (hr : Room n X.A) (hx : Passes CX X E) : OpR X (compareOp .In) (rOwnIn C sp E false) := by
  intro pins s σ H y x v u Q I ry rx h
  obtain ⟨f, fd, ps, F, b, hl, hf⟩ := O.ex
  obtain ⟨a, dx, fs, rfl, ha, hq⟩ := h
  obtain rfl : u = Value.ref a := rx
  obtain ⟨mA, J, _⟩ := ins_get I.hok ha
  obtain ⟨od, J, _⟩ := J.look
  obtain ⟨m, hF⟩ := I.fr
  refine PySem.W.in_K hF I.ok.mod.kin J hl hf (wpAny_mono (own_run (⟨hr, rfl⟩ : Sub X n X.A) F b hx I (show Vals [V.ref a, y] [Value.ref a, v] from .cons rfl (.cons ry .nil)) hq) ?_ fun _ _ z => z)
  rintro u2 s2 ⟨v2, H2, I2, rv, i, rfl, q⟩
  obtain rfl : u2 = Value.bool i := rv
  exact wpAny_pure ⟨.bl i, H2, I2, rfl, q⟩
theorem op_notInOwn (O : Own X CX n C "__contains__" sp) (hr : Room n X.A) (hx : Passes CX X E) : OpR X (compareOp .NotIn) (rOwnIn C sp E true) := by
  intro pins s σ H y x v u Q I ry rx h
  obtain ⟨f, fd, ps, F, b, hl, hf⟩ := O.ex
  obtain ⟨a, dx, fs, rfl, ha, hq⟩ := h
  obtain rfl : u = Value.ref a := rx
  obtain ⟨mA, J, _⟩ := ins_get I.hok ha
  obtain ⟨od, J, _⟩ := J.look
  obtain ⟨m, hF⟩ := I.fr
  refine PySem.W.notIn_K hF I.ok.mod.kin J hl hf (wpAny_mono (own_run (⟨hr, rfl⟩ : Sub X n X.A) F b hx I (show Vals [V.ref a, y] [Value.ref a, v] from .cons rfl (.cons ry .nil)) hq) ?_ fun _ _ z => z)
  rintro u2 s2 ⟨v2, H2, I2, rv, i, rfl, q⟩
  obtain rfl : u2 = Value.bool i := rv
  exact wpAny_pure ⟨.bl (!i), H2, I2, rfl, q⟩
end
end Pu

set_option Elab.async false
set_option linter.all false
set_option maxRecDepth 100000
set_option maxHeartbeats 4000000
/-! readings with two ways, sequences that are lists or tuples, defs that raise -/
namespace Pu
open PySem PySem.Spec PyProof.Rows L2
section
variable {X : Cx}
theorem pi_or {tg e : Expr} {t1 t2 : TI} (h1 : PI X tg e t1) (h2 : PI X tg e t2) : PI X tg e (fun σ H R => t1 σ H R ∨ t2 σ H R) := by
  constructor
  rintro pins s σ H R I (h | h)
  · exact h1.run pins s σ H R I h
  · exact h2.run pins s σ H R I h
theorem pe_either {e : Expr} {t1 t2 : TE} (h1 : PE X e t1) (h2 : PE X e t2) : PE X e (fun σ H Q => t1 σ H Q ∨ t2 σ H Q) := by
  constructor
  rintro pins s σ H Q I (h | h)
  · exact h1.run pins s σ H Q I h
  · exact h2.run pins s σ H Q I h
theorem isiTK (K : PySem.W.Frag) (h : X.K = K := by rfl) : CallR X (.builtin "isinstance") (rIsiT K) := by
  subst h
  exact call_isiT
theorem slSeq (K : PySem.W.Frag) (h : X.K = K := by rfl) : SlR X (fun x lo hi H Q => rSlL K x lo hi H Q ∨ rSlT K x lo hi H Q) := by
  subst h
  exact sl_list.or sl_tup
theorem tupOf (K : PySem.W.Frag) (h : X.K = K := by rfl) : CallR X (.type "tuple") (fun xs H Q => ∃ p ys, xs = [.ref p] ∧ ((SqL K H p ys ∧ ∀ l, H l = none → Q (.ref l) (upd H l (.tup ys))) ∨ (SqT K H p ys ∧ Q (.ref p) H))) := by
  subst h
  exact call_tuple_of
theorem lstOf (K : PySem.W.Frag) (h : X.K = K := by rfl) : CallR X (.type "list") (fun xs H Q => ∃ p ys, xs = [.ref p] ∧ (SqL K H p ys ∨ SqT K H p ys) ∧ ∀ l, H l = none → Q (.ref l) (upd H l (.lst ys))) := by
  subst h
  exact call_list_of
/-- a list or a tuple -/
abbrev Sq (K : PySem.W.Frag) (H : Hp) (a : Addr) (xs : List V) : Prop := SqL K H a xs ∨ SqT K H a xs
theorem sql_same {K : PySem.W.Frag} {H H' : Hp} {a : Addr} {xs : List V} (h : SqL K H a xs) (s : Same H H') : SqL K H' a xs := by
  rcases h with (h | ⟨o, h⟩) | h
  · exact .inl (.inl (s _ _ h))
  · exact .inl (.inr ⟨o, s _ _ h⟩)
  · exact .inr h
theorem sqt_same {K : PySem.W.Frag} {H H' : Hp} {a : Addr} {xs : List V} (h : SqT K H a xs) (s : Same H H') : SqT K H' a xs := by
  rcases h with (h | ⟨o, h⟩) | h
  · exact .inl (.inl (s _ _ h))
  · exact .inl (.inr ⟨o, s _ _ h⟩)
  · exact .inr h
theorem sq_same {K : PySem.W.Frag} {H H' : Hp} {a : Addr} {xs : List V} (h : Sq K H a xs) (s : Same H H') : Sq K H' a xs := by
  exact h.elim (fun h => .inl (sql_same h s)) fun h => .inr (sqt_same h s)
theorem walk_enumT {K : PySem.W.Frag} {a : Addr} {xs : List V} : Walk (IteT K a) xs.length (fun H => SqT K H a xs) (YPair (fun i => some (.int (i : Nat))) (fun i => xs[i]?)) := by
  refine ⟨fun i _ hi q => ⟨xs, xs[i], q, by simp [hi]⟩, fun _ q => ⟨xs, q, Nat.le_refl _⟩, fun i H v H' _ q y => ?_⟩
  obtain ⟨T, x, h1, h2, h3, h4⟩ := y
  exact ⟨T, .int (i : Nat), x, h1, h2, h3, rfl, h4 xs q⟩
/-- enumerate(a list or a tuple) -/
def iEnumS (K : PySem.W.Frag) (ta : TA) : TI := fun σ H R => iEnum K ta σ H R ∨ iEnumT K ta σ H R
theorem pi_enumS {e : Expr} {ta : TA} {p pos tpos : Pos} {elts : List Expr} {kk : Nat} (K : PySem.W.Frag) (hg : Gl X "enumerate") (hm : X.mg "enumerate" = none) (ha : PA X [e] ta) (hs : starEach [e] X.env = [(false, eval e X.env)] := by rfl) (h : X.K = K := by rfl) :
    PI X (.Tuple elts kk tpos) (.Call (.Name "enumerate" p) [e] [] pos) (iEnumS K ta) := by
  subst h
  exact pi_or (pi_enum hg hm ha hs) (pi_enumT hg hm ha hs)
def iSeq (K : PySem.W.Frag) (tl : TE) : TI := fun σ H R => iList K tl σ H R ∨ iTup K tl σ H R
theorem pi_seq {tg l : Expr} {tl : TE} (K : PySem.W.Frag) (hl : PE X l tl) (h : X.K = K := by rfl) : PI X tg l (iSeq K tl) := by
  subst h
  exact pi_or (pi_list hl) (pi_tup hl)
end
/-! ### loops over such a sequence, which stays -/
section
variable {K : PySem.W.Frag} {a : Addr} {xs : List V}
theorem for_seq {te : TE} {g : TG} {tb : TS} {D : Ends} {σ : L2.St} {H : Hp} (Pv : Nat → L2.St → Hp → Prop) (he : ∀ Q : VK, Q (.ref a) H → te σ H Q) (hq : Sq K H a xs) (h0 : Pv 0 σ H) (hG : ∀ i σ' H', i ≤ xs.length → Pv i σ' H' → Same H H')
    (hs : ∀ i x σ' H', xs[i]? = some x → Pv i σ' H' → g x σ' H' fun σ2 H2 => tb { D with nx := Pv (i + 1), ct := Pv (i + 1), bk := D.nx } σ2 H2) (hd : ∀ σ' H', Pv xs.length σ' H' → D.nx σ' H') : tFor (iSeq K te) g tb D σ H := by
  rcases hq with hl | ht
  · refine .inl (he _ ⟨a, rfl, ⟨xs, hl⟩, for_it (Walk.mono (walk_list (K := K) (a := a) (xs := xs)) (G' := fun H' => Same H H') (fun H' s => sql_same hl s) fun _ _ _ _ _ _ y => y) Pv h0 hG (fun i x σ' H1 H2 hi p y => ?_) hd⟩)
    obtain ⟨rfl, hx⟩ := y
    exact hs i x σ' _ hx p
  · refine .inr (he _ ⟨a, rfl, ⟨xs, ht⟩, for_it (Walk.mono (walk_tup (K := K) (a := a) (xs := xs)) (G' := fun H' => Same H H') (fun H' s => sqt_same ht s) fun _ _ _ _ _ _ y => y) Pv h0 hG (fun i x σ' H1 H2 hi p y => ?_) hd⟩)
    obtain ⟨rfl, hx⟩ := y
    exact hs i x σ' _ hx p
theorem for_enumS {ta : TA} {g : TG} {tb : TS} {D : Ends} {σ : L2.St} {H : Hp} (Pv : Nat → L2.St → Hp → Prop) (he : ∀ Q : List V → Hp → Prop, Q [.ref a] H → ta σ H Q) (hq : Sq K H a xs) (h0 : Pv 0 σ H) (hG : ∀ i σ' H', i ≤ xs.length → Pv i σ' H' → Same H H')
    (hs : ∀ i x T σ' H', xs[i]? = some x → Pv i σ' H' → H' T = none → g (.ref T) σ' (upd H' T (.tup [.int (i : Nat), x])) fun σ2 H2 => tb { D with nx := Pv (i + 1), ct := Pv (i + 1), bk := D.nx } σ2 H2) (hd : ∀ σ' H', Pv xs.length σ' H' → D.nx σ' H') : tFor (iEnumS K ta) g tb D σ H := by
  rcases hq with hl | ht
  · refine .inl (he _ ⟨a, xs, rfl, hl, for_it (Walk.mono (walk_enum (K := K) (a := a) (xs := xs)) (G' := fun H' => Same H H') (fun H' s => sql_same hl s) fun _ _ _ _ _ _ y => y) Pv h0 hG (fun i x σ' H1 H2 hi p y => ?_) hd⟩)
    obtain ⟨T, u, z, rfl, hT, rfl, hu, hz⟩ := y
    cases hu
    exact hs i z T σ' _ hz p hT
  · refine .inr (he _ ⟨a, xs, rfl, ht, for_it (Walk.mono (walk_enumT (K := K) (a := a) (xs := xs)) (G' := fun H' => Same H H') (fun H' s => sqt_same ht s) fun _ _ _ _ _ _ y => y) Pv h0 hG (fun i x σ' H1 H2 hi p y => ?_) hd⟩)
    obtain ⟨T, u, z, rfl, hT, rfl, hu, hz⟩ := y
    cases hu
    exact hs i z T σ' _ hz p hT
/-- the same where the sequence alone stays -/
theorem sql_at {H H' : Hp} (h : SqL K H a xs) (s : ∀ o, H a = some o → H' a = some o) : SqL K H' a xs := by
  rcases h with (h | ⟨o, h⟩) | h
  · exact .inl (.inl (s _ h))
  · exact .inl (.inr ⟨o, s _ h⟩)
  · exact .inr h
theorem sqt_at {H H' : Hp} (h : SqT K H a xs) (s : ∀ o, H a = some o → H' a = some o) : SqT K H' a xs := by
  rcases h with (h | ⟨o, h⟩) | h
  · exact .inl (.inl (s _ h))
  · exact .inl (.inr ⟨o, s _ h⟩)
  · exact .inr h
theorem sq_at {H H' : Hp} (h : Sq K H a xs) (s : ∀ o, H a = some o → H' a = some o) : Sq K H' a xs := h.elim (fun h => .inl (sql_at h s)) fun h => .inr (sqt_at h s)
theorem for_seqA {te : TE} {g : TG} {tb : TS} {D : Ends} {σ : L2.St} {H H0 : Hp} (Pv : Nat → L2.St → Hp → Prop) (he : ∀ Q : VK, Q (.ref a) H → te σ H Q) (hq : Sq K H0 a xs) (h0 : Pv 0 σ H) (hG : ∀ i σ' H', i ≤ xs.length → Pv i σ' H' → ∀ o, H0 a = some o → H' a = some o)
    (hs : ∀ i x σ' H', xs[i]? = some x → Pv i σ' H' → g x σ' H' fun σ2 H2 => tb { D with nx := Pv (i + 1), ct := Pv (i + 1), bk := D.nx } σ2 H2) (hd : ∀ σ' H', Pv xs.length σ' H' → D.nx σ' H') : tFor (iSeq K te) g tb D σ H := by
  rcases hq with hl | ht
  · refine .inl (he _ ⟨a, rfl, ⟨xs, sql_at hl (hG 0 _ _ (Nat.zero_le _) h0)⟩, for_it (Walk.mono (walk_list (K := K) (a := a) (xs := xs)) (G' := fun H' => ∀ o, H0 a = some o → H' a = some o) (fun H' s => sql_at hl s) fun _ _ _ _ _ _ y => y) Pv h0 hG (fun i x σ' H1 H2 hi p y => ?_) hd⟩)
    obtain ⟨rfl, hx⟩ := y
    exact hs i x σ' _ hx p
  · refine .inr (he _ ⟨a, rfl, ⟨xs, sqt_at ht (hG 0 _ _ (Nat.zero_le _) h0)⟩, for_it (Walk.mono (walk_tup (K := K) (a := a) (xs := xs)) (G' := fun H' => ∀ o, H0 a = some o → H' a = some o) (fun H' s => sqt_at ht s) fun _ _ _ _ _ _ y => y) Pv h0 hG (fun i x σ' H1 H2 hi p y => ?_) hd⟩)
    obtain ⟨rfl, hx⟩ := y
    exact hs i x σ' _ hx p
/-- comprehensions over such a sequence -/
theorem lc_seq {te0 : TE} {g : TG} {tt : TT} {te : TE} {vs : List Nat} {σ : L2.St} {H H0 : Hp} {Q : VK} (Pv : Addr → Nat → Hp → Prop) (he : ∀ Q : VK, Q (.ref a) H → te0 σ H Q) (hq : Sq K H0 a xs) (hH : ∀ o, H0 a = some o → H a = some o) (h0 : ∀ D, H D = none → Pv D 0 (upd H D (.lst []))) (hG : ∀ D, H D = none → ∀ i H', i ≤ xs.length → Pv D i H' → ∀ o, H0 a = some o → H' a = some o)
    (hs : ∀ D, H D = none → ∀ i x H', xs[i]? = some x → Pv D i H' → g x (wipe σ vs) H' fun σ2 H2 => wipe σ2 vs = wipe σ vs ∧ tt σ2 H2 fun b H3 =>
      if b = true then te σ2 H3 fun y H4 => ∃ acc, H4 D = some (.lst acc) ∧ acc.length < sizeLine ∧ Pv D (i + 1) (upd H4 D (.lst (acc ++ [y]))) else Pv D (i + 1) H3) (hd : ∀ D, H D = none → ∀ H', Pv D xs.length H' → Q (.ref D) H') : tLc (iSeq K te0) g tt te vs σ H Q := by
  rcases hq with hl | ht
  · refine .inl (he _ ⟨a, rfl, ⟨xs, sql_at hl hH⟩, fun D hD => lc_it (Walk.mono (walk_list (K := K) (a := a) (xs := xs)) (G' := fun H' => ∀ o, H0 a = some o → H' a = some o) (fun H' s => sql_at hl s) fun _ _ _ _ _ _ y => y) (Pv D) (h0 D hD) (hG D hD) (fun i x H1 H2 hi p y => ?_) (hd D hD)⟩)
    obtain ⟨rfl, hx⟩ := y
    exact hs D hD i x _ hx p
  · refine .inr (he _ ⟨a, rfl, ⟨xs, sqt_at ht hH⟩, fun D hD => lc_it (Walk.mono (walk_tup (K := K) (a := a) (xs := xs)) (G' := fun H' => ∀ o, H0 a = some o → H' a = some o) (fun H' s => sqt_at ht s) fun _ _ _ _ _ _ y => y) (Pv D) (h0 D hD) (hG D hD) (fun i x H1 H2 hi p y => ?_) (hd D hD)⟩)
    obtain ⟨rfl, hx⟩ := y
    exact hs D hD i x _ hx p
theorem dcT_seq {te0 : TE} {g : TG} {tt : TT} {tk tv : TE} {vs : List Nat} {σ : L2.St} {H H0 : Hp} {Q : VK} (Pv : Addr → Nat → Hp → Prop) (he : ∀ Q : VK, Q (.ref a) H → te0 σ H Q) (hq : Sq K H0 a xs) (hH : ∀ o, H0 a = some o → H a = some o) (h0 : ∀ D, H D = none → Pv D 0 (upd H D (.dT []))) (hG : ∀ D, H D = none → ∀ i H', i ≤ xs.length → Pv D i H' → ∀ o, H0 a = some o → H' a = some o)
    (hs : ∀ D, H D = none → ∀ i x H', xs[i]? = some x → Pv D i H' → g x (wipe σ vs) H' fun σ2 H2 => wipe σ2 vs = wipe σ vs ∧ tt σ2 H2 fun b H3 =>
      if b = true then tk σ2 H3 fun y H4 => tv σ2 H4 fun z H5 => ∃ (kvs : List (List Key × V)) (k : List Key) (b : Addr), y = .ref b ∧ H5 b = some (.tup (k.map kV)) ∧ H5 D = some (.dT kvs) ∧ kvs.length < sizeLine ∧ Pv D (i + 1) (upd H5 D (.dT (putK kvs k z))) else Pv D (i + 1) H3) (hd : ∀ D, H D = none → ∀ H', Pv D xs.length H' → Q (.ref D) H') : tDcT (iSeq K te0) g tt tk tv vs σ H Q := by
  rcases hq with hl | ht
  · refine .inl (he _ ⟨a, rfl, ⟨xs, sql_at hl hH⟩, fun D hD => dcT_it (Walk.mono (walk_list (K := K) (a := a) (xs := xs)) (G' := fun H' => ∀ o, H0 a = some o → H' a = some o) (fun H' s => sql_at hl s) fun _ _ _ _ _ _ y => y) (Pv D) (h0 D hD) (hG D hD) (fun i x H1 H2 hi p y => ?_) (hd D hD)⟩)
    obtain ⟨rfl, hx⟩ := y
    exact hs D hD i x _ hx p
  · refine .inr (he _ ⟨a, rfl, ⟨xs, sqt_at ht hH⟩, fun D hD => dcT_it (Walk.mono (walk_tup (K := K) (a := a) (xs := xs)) (G' := fun H' => ∀ o, H0 a = some o → H' a = some o) (fun H' s => sqt_at ht s) fun _ _ _ _ _ _ y => y) (Pv D) (h0 D hD) (hG D hD) (fun i x H1 H2 hi p y => ?_) (hd D hD)⟩)
    obtain ⟨rfl, hx⟩ := y
    exact hs D hD i x _ hx p
end
/-! ### a def of the module that may raise -/
structure CalX (P : Program) (w : World) (K : PySem.W.Frag) (mg : Str → Option Value) (base : Heap) (k : Nat) (x : Str) (sp : Sp) : Prop where
  ex : ∃ (f : Addr) (fd : FuncData) (ps : List Str), FnOk P w K mg base (L2.CX P w) k f fd ps sp ∧ mg x = some (.ref f) ∧ PySem.W.keepIn K (.ref f) = true ∧ Binds K fd ps []
theorem CalX.mk0 {P : Program} {w : World} {K : PySem.W.Frag} {mg : Str → Option Value} {base : Heap} {k : Nat} {x : Str} {sp : Sp} {f : Addr} {fd : FuncData} {ps : List Str} (F : FnOk P w K mg base (L2.CX P w) k f fd ps sp) (hm : mg x = some (.ref f)) (kp : PySem.W.keepIn K (.ref f) = true) (b : Binds K fd ps []) : CalX P w K mg base k x sp :=
  ⟨f, fd, ps, F, hm, kp, b⟩
/-- a call whose error goes where W says -/
theorem pe_cX {X : Cx} {k j : Nat} {x : Str} {sp : Sp} {W : WX} {e : Expr} {es : List Expr} {t : TA} {p pos : Pos} (c : CalX X.prog X.w X.K X.mg X.base k x sp) (tk : Takes X W) (hr : Room j X.A) (hk : k ≤ j) (hg : Gl X x) (ha : PA X (e :: es) t)
    (hdb : (x == ("__debug__" : Str)) = false := by decide) (he : starEach (e :: es) X.env = (false, eval e X.env) :: starEach es X.env := by rfl) (hpl : (backTo pos (starEach es X.env)).any (·.1) = false := by rfl) :
    PE X (.Call (.Name x p) (e :: es) [] pos) (tCallS sp (WE W) t) := by
  obtain ⟨f, fd, ps, F, hm, kp, b⟩ := c.ex
  exact pe_callS F (hr.mono hk) hg hm kp b (passAt tk) ha hdb he hpl
/-- a call that raises nothing -/
theorem pe_cX0 {X : Cx} {k j : Nat} {x : Str} {sp : Sp} {e : Expr} {es : List Expr} {t : TA} {p pos : Pos} (c : CalX X.prog X.w X.K X.mg X.base k x sp) (hr : Room j X.A) (hk : k ≤ j) (hg : Gl X x) (ha : PA X (e :: es) t)
    (hdb : (x == ("__debug__" : Str)) = false := by decide) (he : starEach (e :: es) X.env = (false, eval e X.env) :: starEach es X.env := by rfl) (hpl : (backTo pos (starEach es X.env)).any (·.1) = false := by rfl) :
    PE X (.Call (.Name x p) (e :: es) [] pos) (tCall sp [] E0 t) := by
  obtain ⟨f, fd, ps, F, hm, kp, b⟩ := c.ex
  exact pe_call F (hr.mono hk) hg hm kp b .nil passL ha hdb he hpl
end Pu
namespace Pu
open PySem PySem.Spec PyProof.Rows L2
/-! what is never reached -/
theorem ps_no {X : Cx} {st : Stmt} : PS X st (fun _ _ _ => False) := ⟨fun _ _ _ _ _ _ h => h.elim⟩
theorem pe_no {X : Cx} {e : Expr} : PE X e (fun _ _ _ => False) := ⟨fun _ _ _ _ _ _ h => h.elim⟩
end Pu
namespace Pu
open PySem PySem.Spec PyProof.Rows L2
/-! the same by name, for theorems whose conclusion is a reading -/
theorem seq_asg {te : TE} {g : TG} {u : TS} {D : Ends} {σ : L2.St} {H : Hp} (h : te σ H fun x H1 => g x σ H1 (u D)) : tSeq (tAsg te g) u D σ H := h
theorem seq_st {t u : TS} {D : Ends} {σ : L2.St} {H : Hp} (h : t { D with nx := u D } σ H) : tSeq t u D σ H := h
theorem ret_of {te : TE} {D : Ends} {σ : L2.St} {H : Hp} (h : te σ H D.rt) : tRet te D σ H := h
theorem gname {i : Nat} {v : V} {σ : L2.St} {H : Hp} {k : L2.St → Hp → Prop} (h : k (σ.set i (some v)) H) : gName i v σ H k := h
end Pu
namespace Pu
open PySem PySem.Spec PyProof.Rows L2
theorem pe_cls {X : Cx} {x : Str} {C : Addr} {pos : Pos} (hg : Gl X x) (hm : X.mg x = some (.ref C)) (hd : (x == ("__debug__" : Str)) = false := by decide) : PE X (.Name x pos) (tC (.ref C)) := pe_glob hg hm (show RelV (V.ref C) (Value.ref C) from rfl) hd
end Pu

set_option Elab.async false
set_option linter.all false
set_option maxRecDepth 100000
set_option maxHeartbeats 4000000
/-! comprehensions whose items are told one by one, over heaps that only grow -/
namespace Pu
open PySem PySem.Spec PyProof.Rows L2
theorem same_put {H1 H'' : Hp} {D : Addr} {o : HO} (hD : H1 D = none) (s : Same H1 H'') : Same H1 (upd H'' D o) := fun b u hb => by
  rw [upd_ne (ne_of_none hb hD)]
  exact s b u hb
section
variable {J : It} {G : Hp → Prop} {α : Type} {xs : List α} {v f : α → V} {keep : α → Bool} {D : Addr} {H1 : Hp} {tt : TT} {te : TE} {i : Nat} {vs : List Nat} {σ : L2.St} {Qd : Hp → Prop}
/-- [f x for x in xs if keep x] -/
theorem lc_fm (w : Walk J xs.length G (YAt (xs.map v))) (hD : H1 D = none) (hG : ∀ H', Same H1 H' → G H') (hz : xs.length < sizeLine) (keep : α → Bool) (f : α → V)
    (hw : ∀ x, wipe ((wipe σ vs).set i (some x)) vs = wipe σ vs)
    (step : ∀ x, x ∈ xs → ∀ H', Same H1 H' → ∀ (N : VK) (M : Hp → Prop), (keep x = true → ∀ H'', Same H' H'' → N (f x) H'') → (keep x = false → ∀ H'', Same H' H'' → M H'') →
      tt ((wipe σ vs).set i (some (v x))) H' fun b H3 => if b = true then te ((wipe σ vs).set i (some (v x))) H3 N else M H3)
    (fin : ∀ H', Same H1 H' → H' D = some (.lst ((xs.filter keep).map f)) → Qd H') :
    ∃ W : Nat → Nat → Hp → Prop, (∃ m, W 0 m (upd H1 D (.lst []))) ∧ ∀ i' m H, W i' m H →
      (J.stop i' H ∧ Qd H) ∨ (J.go i' H ∧ ∃ Nx : Hp → Prop, (∀ H', Nx H' → ∃ m', m' < m ∧ W (i' + 1) m' H') ∧ ∀ x H', J.yld i' H x H' → gName i x (wipe σ vs) H' fun σ2 H2 => wipe σ2 vs = wipe σ vs ∧ tt σ2 H2 fun b H3 =>
        if b = true then te σ2 H3 fun y H4 => ∃ acc, H4 D = some (.lst acc) ∧ acc.length < sizeLine ∧ Nx (upd H4 D (.lst (acc ++ [y]))) else Nx H3) := by
  refine lc_it w (fun j H' => Same H1 H' ∧ H' D = some (.lst (((xs.take j).filter keep).map f))) ⟨same_upd hD, upd_same⟩ (fun j H' _ p => hG H' p.1) (fun j x H' H'' hj pv yv => ?_) (fun H' pv => ?_)
  · obtain ⟨rfl, hx⟩ := yv
    rw [List.getElem?_map, List.getElem?_eq_getElem hj] at hx
    cases hx
    refine ⟨hw _, step xs[j] (List.getElem_mem hj) H'' pv.1 _ _ (fun hk H3 s3 => ?_) fun hk H3 s3 => ?_⟩
    · refine ⟨_, s3 _ _ pv.2, ?_, same_put hD (Same.trans pv.1 s3), ?_⟩
      · rw [List.length_map]
        refine Nat.lt_of_le_of_lt (List.length_filter_le _ _) ?_
        rw [List.length_take]
        exact Nat.lt_of_le_of_lt (Nat.min_le_right _ _) hz
      · rw [upd_same, List.take_add_one, List.getElem?_eq_getElem hj, List.filter_append, List.map_append]
        show some (HO.lst (_ ++ [f xs[j]])) = some (.lst (_ ++ (List.filter _ [xs[j]]).map f))
        rw [List.filter_cons, if_pos hk]
        rfl
    · refine ⟨Same.trans pv.1 s3, ?_⟩
      rw [List.take_add_one, List.getElem?_eq_getElem hj, List.filter_append]
      show _ = some (HO.lst ((_ ++ List.filter _ [xs[j]]).map f))
      rw [List.filter_cons, if_neg (by rw [hk]; decide), List.filter_nil, List.append_nil]
      exact s3 _ _ pv.2
  · refine fin H' pv.1 ?_
    rw [pv.2, List.take_length]
/-- [f x for x in xs] -/
theorem lc_map (w : Walk J xs.length G (YAt (xs.map v))) (hD : H1 D = none) (hG : ∀ H', Same H1 H' → G H') (hz : xs.length < sizeLine) (f : α → V)
    (hw : ∀ x, wipe ((wipe σ vs).set i (some x)) vs = wipe σ vs)
    (step : ∀ x, x ∈ xs → ∀ H', Same H1 H' → ∀ (N : VK), (∀ H'', Same H' H'' → N (f x) H'') → te ((wipe σ vs).set i (some (v x))) H' N)
    (fin : ∀ H', Same H1 H' → H' D = some (.lst (xs.map f)) → Qd H') :
    ∃ W : Nat → Nat → Hp → Prop, (∃ m, W 0 m (upd H1 D (.lst []))) ∧ ∀ i' m H, W i' m H →
      (J.stop i' H ∧ Qd H) ∨ (J.go i' H ∧ ∃ Nx : Hp → Prop, (∀ H', Nx H' → ∃ m', m' < m ∧ W (i' + 1) m' H') ∧ ∀ x H', J.yld i' H x H' → gName i x (wipe σ vs) H' fun σ2 H2 => wipe σ2 vs = wipe σ vs ∧ tYes σ2 H2 fun b H3 =>
        if b = true then te σ2 H3 fun y H4 => ∃ acc, H4 D = some (.lst acc) ∧ acc.length < sizeLine ∧ Nx (upd H4 D (.lst (acc ++ [y]))) else Nx H3) := by
  refine lc_fm (keep := fun _ => true) (f := f) w hD hG hz hw (fun x hx H' s N M h1 h2 => step x hx H' s N (h1 rfl)) fun H' s h => fin H' s ?_
  rw [h, List.filter_eq_self.mpr fun _ _ => rfl]
theorem putK_fresh {κ : Type} [DecidableEq κ] {kvs : List (κ × V)} {k : κ} {z : V} (h : ∀ p ∈ kvs, p.1 ≠ k) : putK kvs k z = kvs ++ [(k, z)] := by
  unfold putK
  rw [if_neg ?_]
  intro e
  obtain ⟨p, hp, e2⟩ := List.any_eq_true.mp e
  exact h p hp (of_decide_eq_true e2)
end
theorem cb1 {r : List V → Hp → VK → Prop} {te : TE} {σ : L2.St} {H : Hp} {Q : VK} (h : te σ H fun x H1 => r [x] H1 Q) : tCB r (tCons te tNil) σ H Q := h
theorem if_b {t : TE} {a b : TS} {D : Ends} {σ : L2.St} {H : Hp} (h : t σ H fun x H1 => ∃ c, x = .bl c ∧ (if c = true then a D σ H1 else b D σ H1)) : tIfS (tB t) a b D σ H := h
theorem if_test {t : TE} {a b : TS} {D : Ends} {σ : L2.St} {H : Hp} (h : t σ H fun x H1 => ∃ c, x = .bl c ∧ (if c = true then a D σ H1 else b D σ H1)) : tIfS (tTest t) a b D σ H := h
theorem if_not {t : TE} {a b : TS} {D : Ends} {σ : L2.St} {H : Hp} (h : t σ H fun x H1 => ∃ c, x = .bl c ∧ (if (!c) = true then a D σ H1 else b D σ H1)) : tIfS (tNot (tB t)) a b D σ H := h
theorem next_of {D : Ends} {σ : L2.St} {H : Hp} (h : D.nx σ H) : tNext D σ H := h
section
variable {D : Addr} {H1 : Hp} {te : TE} {i : Nat} {vs : List Nat} {σ : L2.St} {Qd : Hp → Prop} {n : Nat}
/-- [f k for k in range(n)] -/
theorem lc_rng (hD : H1 D = none) (hz : n < sizeLine) (f : Nat → V)
    (hw : ∀ x, wipe ((wipe σ vs).set i (some x)) vs = wipe σ vs)
    (step : ∀ k : Nat, k < n → ∀ H', Same H1 H' → ∀ (N : VK), (∀ H'', Same H' H'' → N (f k) H'') → te ((wipe σ vs).set i (some (.int k))) H' N)
    (fin : ∀ H', Same H1 H' → H' D = some (.lst ((List.range n).map f)) → Qd H') :
    ∃ W : Nat → Nat → Hp → Prop, (∃ m, W 0 m (upd H1 D (.lst []))) ∧ ∀ i' m H, W i' m H →
      ((Itr 0 n).stop i' H ∧ Qd H) ∨ ((Itr 0 n).go i' H ∧ ∃ Nx : Hp → Prop, (∀ H', Nx H' → ∃ m', m' < m ∧ W (i' + 1) m' H') ∧ ∀ x H', (Itr 0 n).yld i' H x H' → gName i x (wipe σ vs) H' fun σ2 H2 => wipe σ2 vs = wipe σ vs ∧ tYes σ2 H2 fun b H3 =>
        if b = true then te σ2 H3 fun y H4 => ∃ acc, H4 D = some (.lst acc) ∧ acc.length < sizeLine ∧ Nx (upd H4 D (.lst (acc ++ [y]))) else Nx H3) := by
  refine lc_range (lo := 0) (fun j H' => Same H1 H' ∧ j ≤ n ∧ H' D = some (.lst ((List.range j).map f))) ⟨same_upd hD, Nat.zero_le _, upd_same⟩ (fun j H' hj pv => ?_) (fun H' pv => fin H' pv.1 pv.2.2)
  rw [Int.zero_add]
  refine ⟨hw _, step j hj H' pv.1 _ fun H3 s3 => ⟨_, s3 _ _ pv.2.2, ?_, same_put hD (Same.trans pv.1 s3), hj, ?_⟩⟩
  · rw [List.length_map, List.length_range]
    exact Nat.lt_trans hj hz
  · rw [upd_same, List.range_succ, List.map_append]
    rfl
end
section
variable {J : It} {G : Hp → Prop} {α : Type} {xs : List α} {v : α → V} {D : Addr} {H1 : Hp} {te : TE} {i : Nat} {vs : List Nat} {σ : L2.St} {Qd : Hp → Prop}
theorem paired_snoc {α β : Type} {F : α → β → Prop} {xs : List α} {ys : List β} {x : α} {y : β} (h : Paired F xs ys) (k : F x y) : Paired F (xs ++ [x]) (ys ++ [y]) := by
  induction h with
  | nil => exact .cons k .nil
  | cons r _ ih => exact .cons r ih
theorem paired_mono {α β : Type} {F G : α → β → Prop} {xs : List α} {ys : List β} (h : Paired F xs ys) (k : ∀ x y, F x y → G x y) : Paired G xs ys := by
  induction h with
  | nil => exact .nil
  | cons r _ ih => exact .cons (k _ _ r) ih
/-- [something made of x for x in xs] -/
theorem lc_obj (w : Walk J xs.length G (YAt (xs.map v))) (hD : H1 D = none) (hG : ∀ H', Same H1 H' → G H') (hz : xs.length < sizeLine) (R : V → α → Hp → Prop) (mono : ∀ y x H H', R y x H → Same H H' → R y x H')
    (hw : ∀ x, wipe ((wipe σ vs).set i (some x)) vs = wipe σ vs)
    (put : ∀ y x (H : Hp) o, R y x H → (∃ ys, H D = some (.lst ys)) → R y x (upd H D (.lst o)))
    (step : ∀ x, x ∈ xs → ∀ H', Same H1 H' → ∀ (N : VK), (∀ y H'', Same H' H'' → R y x H'' → N y H'') → te ((wipe σ vs).set i (some (v x))) H' N)
    (fin : ∀ ys H', Same H1 H' → H' D = some (.lst ys) → Paired (fun y x => R y x H') ys xs → Qd H') :
    ∃ W : Nat → Nat → Hp → Prop, (∃ m, W 0 m (upd H1 D (.lst []))) ∧ ∀ i' m H, W i' m H →
      (J.stop i' H ∧ Qd H) ∨ (J.go i' H ∧ ∃ Nx : Hp → Prop, (∀ H', Nx H' → ∃ m', m' < m ∧ W (i' + 1) m' H') ∧ ∀ x H', J.yld i' H x H' → gName i x (wipe σ vs) H' fun σ2 H2 => wipe σ2 vs = wipe σ vs ∧ tYes σ2 H2 fun b H3 =>
        if b = true then te σ2 H3 fun y H4 => ∃ acc, H4 D = some (.lst acc) ∧ acc.length < sizeLine ∧ Nx (upd H4 D (.lst (acc ++ [y]))) else Nx H3) := by
  refine lc_it w (fun j H' => Same H1 H' ∧ ∃ ys, H' D = some (.lst ys) ∧ ys.length ≤ j ∧ Paired (fun y x => R y x H') ys (xs.take j)) ⟨same_upd hD, [], upd_same, Nat.le_refl _, .nil⟩ (fun j H' _ p => hG H' p.1) (fun j x H' H'' hj pv yv => ?_) (fun H' pv => ?_)
  · obtain ⟨rfl, hx⟩ := yv
    rw [List.getElem?_map, List.getElem?_eq_getElem hj] at hx
    cases hx
    obtain ⟨s1, ys, hy, hl, hp⟩ := pv
    refine ⟨hw _, step xs[j] (List.getElem_mem hj) H'' s1 _ fun y H3 s3 hr => ⟨ys, s3 _ _ hy, by omega, same_put hD (Same.trans s1 s3), ys ++ [y], upd_same, by rw [List.length_append]; show _ + 1 ≤ _; omega, ?_⟩⟩
    rw [List.take_add_one, List.getElem?_eq_getElem hj]
    exact paired_snoc (paired_mono hp fun a b h => put _ _ _ _ (mono _ _ _ _ h s3) ⟨ys, s3 _ _ hy⟩) (put _ _ _ _ hr ⟨ys, s3 _ _ hy⟩)
  · obtain ⟨s1, ys, hy, hl, hp⟩ := pv
    rw [List.take_length] at hp
    exact fin ys H' s1 hy hp
end
section
variable {D : Addr} {H1 : Hp} {te : TE} {i : Nat} {vs : List Nat} {σ : L2.St} {Qd : Hp → Prop} {n : Nat}
/-- [something made at k for k in range(n)] -/
theorem lc_rngO (hD : H1 D = none) (hz : n < sizeLine) (R : V → Nat → Hp → Prop) (mono : ∀ y k H H', R y k H → Same H H' → R y k H') (put : ∀ y k (H : Hp) o, R y k H → H1 D = none → (∃ ys, H D = some (.lst ys)) → Same H1 H → R y k (upd H D (.lst o)))
    (hw : ∀ x, wipe ((wipe σ vs).set i (some x)) vs = wipe σ vs)
    (step : ∀ k : Nat, k < n → ∀ H', Same H1 H' → (∃ ys, H' D = some (.lst ys) ∧ ys.length = k ∧ ∀ j y, ys[j]? = some y → R y j H') → ∀ (N : VK), (∀ y H'', Same H' H'' → R y k H'' → N y H'') → te ((wipe σ vs).set i (some (.int k))) H' N)
    (fin : ∀ ys H', Same H1 H' → H' D = some (.lst ys) → ys.length = n → (∀ k y, ys[k]? = some y → R y k H') → Qd H') :
    ∃ W : Nat → Nat → Hp → Prop, (∃ m, W 0 m (upd H1 D (.lst []))) ∧ ∀ i' m H, W i' m H →
      ((Itr 0 n).stop i' H ∧ Qd H) ∨ ((Itr 0 n).go i' H ∧ ∃ Nx : Hp → Prop, (∀ H', Nx H' → ∃ m', m' < m ∧ W (i' + 1) m' H') ∧ ∀ x H', (Itr 0 n).yld i' H x H' → gName i x (wipe σ vs) H' fun σ2 H2 => wipe σ2 vs = wipe σ vs ∧ tYes σ2 H2 fun b H3 =>
        if b = true then te σ2 H3 fun y H4 => ∃ acc, H4 D = some (.lst acc) ∧ acc.length < sizeLine ∧ Nx (upd H4 D (.lst (acc ++ [y]))) else Nx H3) := by
  refine lc_range (lo := 0) (fun j H' => Same H1 H' ∧ j ≤ n ∧ ∃ ys, H' D = some (.lst ys) ∧ ys.length = j ∧ ∀ k y, ys[k]? = some y → R y k H') ⟨same_upd hD, Nat.zero_le _, [], upd_same, rfl, fun k y h => by simp at h⟩ (fun j H' hj pv => ?_) (fun H' pv => ?_)
  · obtain ⟨s1, _, ys, hy, hl, hR⟩ := pv
    rw [Int.zero_add]
    refine ⟨hw _, step j hj H' s1 ⟨ys, hy, hl, hR⟩ _ fun y H3 s3 hr => ⟨ys, s3 _ _ hy, by omega, same_put hD (Same.trans s1 s3), hj, ys ++ [y], upd_same, by rw [List.length_append, hl]; rfl, fun k z hk => ?_⟩⟩
    have s13 := Same.trans s1 s3
    rcases Nat.lt_or_ge k ys.length with h | h
    · rw [List.getElem?_append_left h] at hk
      exact put _ _ _ _ (mono _ _ _ _ (hR k z hk) s3) hD ⟨_, s3 _ _ hy⟩ s13
    · rw [List.getElem?_append_right h] at hk
      have h0 : k - ys.length = 0 := by
        cases hh : k - ys.length with
        | zero => rfl
        | succ m => rw [hh] at hk; simp at hk
      rw [h0] at hk
      have hkj : k = j := by omega
      cases hk
      subst hkj
      exact put _ _ _ _ hr hD ⟨_, s3 _ _ hy⟩ s13
  · obtain ⟨s1, _, ys, hy, hl, hR⟩ := pv
    exact fin ys H' s1 hy hl hR
end
/-! the last arguments by name, so that a promise is in sight -/
theorem nil_of {σ : L2.St} {H : Hp} {Q : List V → Hp → Prop} (h : Q [] H) : tNil σ H Q := h
theorem lastc {v : V} {σ : L2.St} {H : Hp} {Q : List V → Hp → Prop} (h : Q [v] H) : tCons (tC v) tNil σ H Q := h
end Pu

set_option Elab.async false
set_option linter.all false
set_option maxRecDepth 100000
set_option maxHeartbeats 4000000
/-! texts by their signs -/
namespace Pu
open PySem PySem.Spec PyProof.Rows L2
def cs (z : Str) : List Nat := z.cps.toList
theorem cs_len (z : Str) : (cs z).length = z.length := by
  show z.cps.toList.length = z.cps.size
  rw [Array.length_toList]
theorem cs_app (x y : Str) : cs (x ++ y) = cs x ++ cs y := Array.toList_append
theorem cs_one (c : Nat) : cs ⟨#[c]⟩ = [c] := rfl
theorem cs_nil : cs ("" : Str) = [] := rfl
theorem cs_ext {x y : Str} (h : cs x = cs y) : x = y := by
  obtain ⟨a⟩ := x
  obtain ⟨b⟩ := y
  have e : a = b := Array.toList_inj.mp h
  rw [e]
theorem cs_to (z : Str) (i : Nat) : cs (cutS z none (some (i : Int))) = (cs z).take i := by
  show (List.toArray _).toList = _
  rw [HT.sIx_none, HT.sIx_nat, List.drop_zero, Nat.sub_zero]
  show z.cps.toList.take (min i z.cps.size) = z.cps.toList.take i
  rw [← Array.length_toList, ← List.take_take, List.take_length]
theorem cs_from (z : Str) (i : Nat) : cs (cutS z (some (i : Int)) none) = (cs z).drop i := by
  show (List.toArray _).toList = _
  rw [HT.sIx_none, HT.sIx_nat]
  have hl : z.length = z.cps.toList.length := by rw [Array.length_toList]; rfl
  show (z.cps.toList.drop (min i z.length)).take (z.length - min i z.length) = z.cps.toList.drop i
  rw [hl, List.take_of_length_le (by rw [List.length_drop]; exact Nat.le_refl _)]
  by_cases h : i ≤ z.cps.toList.length
  · rw [Nat.min_eq_left h]
  · rw [Nat.min_eq_right (by omega), List.drop_of_length_le (Nat.le_refl _), List.drop_of_length_le (by omega)]
theorem cs_join0 : ∀ ys : List Str, cs (Txt.join ("" : Str) ys) = ys.flatMap cs := by
  intro ys
  rw [show Txt.join ("" : Str) ys = PySem.Str.join ("" : Str) ys from PySem.StrLaws.glued_eq_join _ _]
  induction ys with
  | nil => rfl
  | cons x r ih =>
    cases r with
    | nil =>
      show cs x = cs x ++ []
      rw [List.append_nil]
    | cons y r =>
      show cs (x ++ ("" : Str) ++ PySem.Str.join ("" : Str) (y :: r)) = _
      rw [cs_app, cs_app, ih, cs_nil, List.append_nil]
      rfl
/-- made of the letters alone -/
def Low (z : Str) : Prop := ∀ c ∈ cs z, c ∈ cs ("abcdefghijklmnopqrstuvwxyz" : Str)
theorem low_app {x y : Str} (hx : Low x) (hy : Low y) : Low (x ++ y) := by
  intro c hc
  rw [cs_app] at hc
  exact (List.mem_append.mp hc).elim (hx c) (hy c)
theorem low_one {c : Nat} (h : c ∈ cs ("abcdefghijklmnopqrstuvwxyz" : Str)) : Low ⟨#[c]⟩ := by
  intro d hd
  rw [cs_one] at hd
  rw [List.mem_singleton.mp hd]
  exact h
theorem low_cut {z : Str} (h : Low z) (lo hi : Option Int) : Low (cutS z lo hi) := fun c hc => h c (List.mem_of_mem_drop (List.mem_of_mem_take hc))
theorem low_join {ys : List Str} (h : ∀ y ∈ ys, Low y) : Low (Txt.join ("" : Str) ys) := by
  intro c hc
  rw [cs_join0] at hc
  obtain ⟨y, hy, hc2⟩ := List.mem_flatMap.mp hc
  exact h y hy c hc2
/-- texts of which no two end with the same sign differ -/
theorem last_ne {x y : Str} {c d : Nat} (h : c ≠ d) : x ++ (⟨#[c]⟩ : Str) ≠ y ++ (⟨#[d]⟩ : Str) := by
  intro e
  have e2 := congrArg cs e
  rw [cs_app, cs_app, cs_one, cs_one] at e2
  have e3 := congrArg List.getLast? e2
  rw [List.getLast?_append, List.getLast?_append] at e3
  exact h (Option.some.inj e3)
/-- nor do texts that differ in a sign within -/
theorem mid_ne {x y : Str} {c d : Nat} {i : Nat} (h : c ≠ d) : cutS x none (some (i : Int)) ++ (⟨#[c]⟩ : Str) ++ y ≠ cutS x none (some (i : Int)) ++ (⟨#[d]⟩ : Str) ++ y := by
  intro e
  have e2 := congrArg cs e
  rw [cs_app, cs_app, cs_app, cs_app, cs_one, cs_one, List.append_assoc, List.append_assoc] at e2
  have e3 := List.append_cancel_left e2
  exact h (List.cons.inj e3).1
/-- the letters that lie three apart, from a drawn one on -/
def let3 (s : Int) (k : Nat) : Nat := (cs ("abcdefghijklmnopqrstuvwxyz" : Str)).getD (((s + 3 * (k : Int)) % 26).toNat) 0
theorem abc_inj : ∀ i < 26, ∀ j < 26, (cs ("abcdefghijklmnopqrstuvwxyz" : Str)).getD i 0 = (cs ("abcdefghijklmnopqrstuvwxyz" : Str)).getD j 0 → i = j := by decide +kernel
theorem let3_ne {s : Int} {j k : Nat} (hj : j < 9) (hk : k < 9) (h : j ≠ k) : let3 s j ≠ let3 s k := by
  intro e
  have h1 := Int.emod_nonneg (s + 3 * (j : Int)) (show (26 : Int) ≠ 0 by decide)
  have h2 := Int.emod_lt_of_pos (s + 3 * (j : Int)) (show (0 : Int) < 26 by decide)
  have h3 := Int.emod_nonneg (s + 3 * (k : Int)) (show (26 : Int) ≠ 0 by decide)
  have h4 := Int.emod_lt_of_pos (s + 3 * (k : Int)) (show (0 : Int) < 26 by decide)
  have := abc_inj _ (by omega) _ (by omega) e
  omega
theorem let3_in {s : Int} {k : Nat} : atI (cs ("abcdefghijklmnopqrstuvwxyz" : Str)) ((s + 3 * (k : Int)) % 26) = some (let3 s k) ∧ let3 s k ∈ cs ("abcdefghijklmnopqrstuvwxyz" : Str) := by
  have h1 := Int.emod_nonneg (s + 3 * (k : Int)) (show (26 : Int) ≠ 0 by decide)
  have h2 := Int.emod_lt_of_pos (s + 3 * (k : Int)) (show (0 : Int) < 26 by decide)
  obtain ⟨v, hv, hm⟩ := pickN (xs := cs ("abcdefghijklmnopqrstuvwxyz" : Str)) h1 (by show _ < (26 : Int); exact h2)
  have e : v = let3 s k := by
    have h5 : atI (cs ("abcdefghijklmnopqrstuvwxyz" : Str)) (((((s + 3 * (k : Int)) % 26).toNat : Nat) : Int)) = some v := by
      rw [Int.toNat_of_nonneg h1]
      exact hv
    have hlt : ((s + 3 * (k : Int)) % 26).toNat < (cs ("abcdefghijklmnopqrstuvwxyz" : Str)).length := by
      show _ < 26
      omega
    rw [atI_nat (List.getElem?_eq_getElem hlt)] at h5
    unfold let3
    rw [List.getD_eq_getElem?_getD, List.getElem?_eq_getElem hlt]
    exact (Option.some.inj h5).symm
  rw [← e]
  exact ⟨hv, hm⟩
end Pu
namespace Pu
open PySem PySem.Spec PyProof.Rows L2
theorem Ext.fresh {b D : Addr} {H H' : Hp} {n : Int} (e : Ext b H H') (B : Box H' b n) (h : H' D = none) : H D = none := by
  cases hh : H D with
  | none => rfl
  | some o =>
    rw [e D o (B.ne h).symm hh] at h
    cases h
/-- letters drawn one by one -/
theorem word_lc {b D : Addr} {n : Int} {m : Nat} {H1 : Hp} {g : TG} {tt : TT} {te : TE} {vs : List Nat} {σ : L2.St} {Qd : Hp → Prop} (hD : H1 D = none) (B : Box H1 b n) (hm : m ≤ 8)
    (step : ∀ (i : Nat) (H' : Hp), i < m → Box H' b (n + i) → ∀ (N : VK) (M : Hp → Prop), (∀ c H'', c ∈ cs ("abcdefghijklmnopqrstuvwxyz" : Str) → Box H'' b (n + i + 1) → Ext b H' H'' → N (.str ⟨#[c]⟩) H'') →
      g (.int (0 + i)) (wipe σ vs) H' fun σ2 H2 => wipe σ2 vs = wipe σ vs ∧ tt σ2 H2 fun b H3 => if b = true then te σ2 H3 N else M H3)
    (fin : ∀ (ys : List Str) (H' : Hp), Box H' b (n + m) → Ext b H1 H' → ys.length = m → (∀ y ∈ ys, y.length = 1 ∧ Low y) → H' D = some (.lst (ys.map V.str)) → Qd H') :
    ∃ W : Nat → Nat → Hp → Prop, (∃ m, W 0 m (upd H1 D (.lst []))) ∧ ∀ i m' H, W i m' H →
      ((Itr 0 m).stop i H ∧ Qd H) ∨ ((Itr 0 m).go i H ∧ ∃ Nx : Hp → Prop, (∀ H', Nx H' → ∃ m'', m'' < m' ∧ W (i + 1) m'' H') ∧ ∀ x H', (Itr 0 m).yld i H x H' → g x (wipe σ vs) H' fun σ2 H2 => wipe σ2 vs = wipe σ vs ∧ tt σ2 H2 fun b H3 =>
        if b = true then te σ2 H3 fun y H4 => ∃ acc, H4 D = some (.lst acc) ∧ acc.length < sizeLine ∧ Nx (upd H4 D (.lst (acc ++ [y]))) else Nx H3) := by
  have hbD : b ≠ D := B.ne hD
  refine lc_range (fun i H' => Box H' b (n + i) ∧ Ext b H1 H' ∧ ∃ ys : List Str, ys.length = i ∧ (∀ y ∈ ys, y.length = 1 ∧ Low y) ∧ H' D = some (.lst (ys.map V.str))) ⟨(B.new hD).mono (by omega), Ext.new hD, [], rfl, fun _ h => absurd h List.not_mem_nil, upd_same⟩ (fun i H' hi p => step i H' hi p.1 _ _ fun c H'' hc B2 e2 => ?_) (fun H' p => ?_)
  · obtain ⟨B1, e1, ys, hl, h1, hD1⟩ := p
    refine ⟨ys.map V.str, e2 _ _ hbD.symm hD1, ?_, (B2.upd hbD).mono (by omega), (e1.trans e2).mut hD, ys ++ [⟨#[c]⟩], by rw [List.length_append, hl]; rfl, fun y hy => ?_, ?_⟩
    · rw [List.length_map]
      exact Nat.lt_of_lt_of_le (by omega) (sz 100)
    · rcases List.mem_append.mp hy with hy | hy
      · exact h1 y hy
      · rw [List.mem_singleton.mp hy]
        exact ⟨rfl, low_one hc⟩
    · rw [upd_same, List.map_append]
      rfl
  · obtain ⟨B1, e1, ys, hl, h1, hD1⟩ := p
    exact fin ys H' B1 e1 hl h1 hD1
theorem Box.same {H H' : Hp} {b : Addr} {n : Int} (h : Box H b n) (s : Same H H') : Box H' b n := by
  obtain ⟨x, y, z, e, r⟩ := h
  exact ⟨x, y, z, s _ _ e, r⟩
end Pu

set_option Elab.async false
set_option linter.all false
set_option maxRecDepth 100000
set_option maxHeartbeats 4000000
/-! != of lists and of dicts, == and != of tuples, where what holds of the parts is known in one program alone -/
namespace PySem.SeqAt
open AutoSeq1 (wpAny_loadPart')
open MeetsSeq MeetsSeq2 MeetsSeq3 SeqRoads2
section
variable {P : Program} {w : World}
/-- the parts that both hold, one by one -/
def Parts (P : Program) (w : World) (A : Around) (s : Shared) (us vs : Array Value) (f : Nat → Bool) : Prop := ∀ j (_ : j < us.size) (_ : j < vs.size), EqP P w A s us[j] vs[j] (f j)
theorem neLoop (p q : Addr) (us vs : Array Value) (m m' : Nat) (od od' : Option Addr) (ss ss' : Array (Option Value)) (len : us.size = vs.size) (f : Nat → Bool) : ∀ (left i : Nat), us.size - i = left →
    MeetsIn P w (Builtin.«list.__eq__.loop» ⟨[.ref p, .ref q, rawInt i, rawInt 3], []⟩) (fun A R s =>
      s.heap.get? p = some ⟨.type "list", od, .seq us m, ss⟩ ∧ s.heap.get? q = some ⟨.type "list", od', .seq vs m', ss'⟩ ∧ Parts P w A.in1 s us vs f ∧ R (.ok (.ret (.bool (!((List.range us.size).drop i).all f)))) s) := by
  intro left
  induction left with
  | zero =>
    rintro i hi A R ⟨hp, g, d, tk, os⟩ ⟨e1, e2, _, fin⟩
    have o1 : us[((i : Nat) : Int).toNat]? = none := by simp; omega
    have o2 : vs[((i : Nat) : Int).toNat]? = none := by simp; omega
    rw [show (List.range us.size).drop i = [] by simp; omega] at fin
    wp_walk using wpAny_loadPart' e1, wpAny_loadPart' e2
    rw [o1, o2]
    wp_walk using wpAny_loadPart' e1, wpAny_loadPart' e2
    show R (.ok (.ret (.bool (us.size != vs.size)))) _
    rw [len]
    simpa using fin
  | succ left ih =>
    rintro i hi A R ⟨hp, g, d, tk, os⟩ ⟨e1, e2, ps, fin⟩
    have l1 : i < us.size := by omega
    have l2 : i < vs.size := by omega
    have o1 : us[((i : Nat) : Int).toNat]? = some us[i] := by simp [l1]
    have o2 : vs[((i : Nat) : Int).toNat]? = some vs[i] := by simp [l2]
    have up : ((i : Int) + 1) = ((i + 1 : Nat) : Int) := by omega
    rw [show (List.range us.size).drop i = i :: (List.range us.size).drop (i + 1) by simp [List.drop_eq_getElem_cons, l1], List.all_cons] at fin
    wp_walk using wpAny_loadPart' e1, wpAny_loadPart' e2
    rw [o1, o2]
    refine wpAny_bind (ps i l1 l2 _ _ ?_)
    cases fi : f i with
    | true =>
      rw [fi] at fin
      wp_walk
      rw [up]
      refine ⟨plainId_quiet plain_eq_loop _, codeAny_builtin entry_eq_loop ?_⟩
      rw [Around.under_plainId plain_eq_loop _]
      exact ih (i + 1) (by omega) A R _ ⟨e1, e2, ps, by simpa using fin⟩
    | false =>
      rw [fi] at fin
      wp_walk using wpAny_loadPart' e1, wpAny_loadPart' e2
      rw [o1, o2]
      wp_walk
      simpa using fin
theorem neLists {A : Around} {s : Shared} {p q : Addr} {us vs : Array Value} {f : Nat → Bool} (h1 : s.heap.IsList p us) (h2 : s.heap.IsList q vs) (len : us.size = vs.size) (hu : A.units < cLine) (ps : Parts P w A.in1 s us vs f) (E Q : Value → Shared → Prop)
    (fin : Q (.bool (!(List.range us.size).all f)) s) : wpAny (model P w) A (richCompare .NotEq (.ref p) (.ref q)) Q E s := by
  obtain ⟨⟨c1, od, da, ss⟩, g1, k1, m, b1⟩ := id h1
  obtain ⟨⟨c2, od', db, ss'⟩, g2, k2, m', b2⟩ := id h2
  dsimp only at k1 b1 k2 b2
  subst k1 b1 k2 b2
  have t1 : s.TypeIs (.ref p) "list" := ⟨_, g1, rfl⟩
  have t2 : s.TypeIs (.ref q) "list" := ⟨_, g2, rfl⟩
  have body : MeetsIn P w (Builtin.«list.__ne__» ⟨[.ref p, .ref q], []⟩) (fun A R s => s.heap.get? p = some ⟨.type "list", od, .seq us m, ss⟩ ∧ s.heap.get? q = some ⟨.type "list", od', .seq vs m', ss'⟩ ∧ Parts P w A.in1 s us vs f ∧ R (.ok (.ret (.bool (!(List.range us.size).all f)))) s) := by
    rintro A R ⟨hp, g, d, tk, os⟩ ⟨e1, e2, ps, fin⟩
    have sub := AutoSeq1.sub_list_list
    have ne : ¬ (us.size != vs.size) = true := by simp [len]
    wp_walk using wpAny_loadPart' e1, wpAny_loadPart' e2
    refine ⟨plainId_quiet plain_eq_loop _, codeAny_builtin entry_eq_loop ?_⟩
    rw [Around.under_plainId plain_eq_loop _]
    exact neLoop p q us vs m m' od od' ss ss' len f _ 0 rfl A R _ ⟨e1, e2, ps, by simpa using fin⟩
  exact wpAny_richCompare_same_room (op := .NotEq) t1 t2 F.slot_list_ne (call_meetsIn F.slot_list_ne t1 F.entry_list_ne (F.args_list_ne_2 _ _) body ⟨g1, g2, ps, (fun x => nomatch x), fin⟩) hu
/-- a walk over the two tuples -/
theorem zipWalk {A : Around} {s : Shared} {us vs : Array Value} {f : Nat → Bool} (len : us.size = vs.size) : (us.toList.zip vs.toList).length = us.size := by simp [len]
theorem eqTuples {A : Around} {s : Shared} {p q : Addr} {us vs : Array Value} {f : Nat → Bool} (h1 : s.heap.IsTuple p us) (h2 : s.heap.IsTuple q vs) (len : us.size = vs.size) (hu : A.units < cLine) (ps : Parts P w A.in1 s us vs f) (E Q : Value → Shared → Prop)
    (fin : Q (.bool ((List.range us.size).all f)) s) : wpAny (model P w) A (richCompare .Eq (.ref p) (.ref q)) Q E s := by
  obtain ⟨⟨c1, od, da, ss⟩, g1, k1, m, b1⟩ := id h1
  obtain ⟨⟨c2, od', db, ss'⟩, g2, k2, m', b2⟩ := id h2
  dsimp only at k1 b1 k2 b2
  subst k1 b1 k2 b2
  have t1 : s.TypeIs (.ref p) "tuple" := ⟨_, g1, rfl⟩
  have t2 : s.TypeIs (.ref q) "tuple" := ⟨_, g2, rfl⟩
  have body : MeetsIn P w (Builtin.«tuple.__eq__» ⟨[.ref p, .ref q], []⟩) (fun A R s => s.heap.get? p = some ⟨.type "tuple", od, .seq us m, ss⟩ ∧ s.heap.get? q = some ⟨.type "tuple", od', .seq vs m', ss'⟩ ∧ Parts P w A.in1 s us vs f ∧ R (.ok (.ret (.bool ((List.range us.size).all f)))) s) := by
    rintro A R ⟨hp, g, d, tk, os⟩ ⟨e1, e2, ps, fin⟩
    have sub := AutoSeq1.sub_tuple_tuple
    have lz : (us.toList.zip vs.toList).length = us.size := by simp [len]
    wp_walk using wpAny_loadPart' e1, wpAny_loadPart' e2, wpAny_forIn_list _ (fun rest b s' => b.1 = none ∧ s' = ⟨hp, g, d, tk, os⟩ ∧ ∃ i, rest = (us.toList.zip vs.toList).drop i ∧ R (.ok (.ret (.bool (((List.range us.size).drop i).all f)))) ⟨hp, g, d, tk, os⟩) _
    case turn =>
      rintro ⟨y, x⟩ rest b s' ⟨nb, rfl, i, hz, hR⟩
      have li : i < (us.toList.zip vs.toList).length := by
        rcases Nat.lt_or_ge i (us.toList.zip vs.toList).length with z | z
        · exact z
        · rw [List.drop_of_length_le z] at hz
          cases hz
      have l1 : i < us.size := lz ▸ li
      have l2 : i < vs.size := len ▸ l1
      rw [List.drop_eq_getElem_cons li] at hz
      obtain ⟨hyx, hrest⟩ := List.cons.inj hz
      have ey : y = us[i] := by simpa using congrArg Prod.fst hyx
      have ex : x = vs[i] := by simpa using congrArg Prod.snd hyx
      subst ey ex
      rw [show (List.range us.size).drop i = i :: (List.range us.size).drop (i + 1) by simp [List.drop_eq_getElem_cons, l1], List.all_cons] at hR
      refine wpAny_bind (ps i l1 l2 _ _ ?_)
      cases fi : f i with
      | true =>
        rw [fi] at hR
        wp_walk
        exact ⟨rfl, rfl, i + 1, hrest, by simpa using hR⟩
      | false =>
        rw [fi] at hR
        wp_walk
        simpa using hR
    case fin =>
      rintro ⟨b1, b2⟩ s' ⟨nb, rfl, i, hz, hR⟩
      dsimp only at nb
      subst nb
      have li : us.size ≤ i := by
        rcases Nat.lt_or_ge i (us.toList.zip vs.toList).length with z | z
        · rw [List.drop_eq_getElem_cons z] at hz
          cases hz
        · exact lz ▸ z
      rw [List.drop_of_length_le (by simpa using li)] at hR
      wp_walk
      simpa [Builtin.Tuple.tupleCompareSizes, len] using hR
    case h => exact ⟨rfl, rfl, 0, rfl, by simpa using fin⟩
  exact wpAny_richCompare_same_room (op := .Eq) t1 t2 F.slot_tuple_eq (call_meetsIn F.slot_tuple_eq t1 F.entry_tuple_eq (F.args_tuple_eq_2 _ _) body ⟨g1, g2, ps, (fun x => nomatch x), fin⟩) hu
theorem neTuples {A : Around} {s : Shared} {p q : Addr} {us vs : Array Value} {f : Nat → Bool} (h1 : s.heap.IsTuple p us) (h2 : s.heap.IsTuple q vs) (len : us.size = vs.size) (hu : A.units < cLine) (ps : Parts P w A.in1 s us vs f) (E Q : Value → Shared → Prop)
    (fin : Q (.bool (!(List.range us.size).all f)) s) : wpAny (model P w) A (richCompare .NotEq (.ref p) (.ref q)) Q E s := by
  obtain ⟨⟨c1, od, da, ss⟩, g1, k1, m, b1⟩ := id h1
  obtain ⟨⟨c2, od', db, ss'⟩, g2, k2, m', b2⟩ := id h2
  dsimp only at k1 b1 k2 b2
  subst k1 b1 k2 b2
  have t1 : s.TypeIs (.ref p) "tuple" := ⟨_, g1, rfl⟩
  have t2 : s.TypeIs (.ref q) "tuple" := ⟨_, g2, rfl⟩
  have body : MeetsIn P w (Builtin.«tuple.__ne__» ⟨[.ref p, .ref q], []⟩) (fun A R s => s.heap.get? p = some ⟨.type "tuple", od, .seq us m, ss⟩ ∧ s.heap.get? q = some ⟨.type "tuple", od', .seq vs m', ss'⟩ ∧ Parts P w A.in1 s us vs f ∧ R (.ok (.ret (.bool (!(List.range us.size).all f)))) s) := by
    rintro A R ⟨hp, g, d, tk, os⟩ ⟨e1, e2, ps, fin⟩
    have sub := AutoSeq1.sub_tuple_tuple
    have lz : (us.toList.zip vs.toList).length = us.size := by simp [len]
    wp_walk using wpAny_loadPart' e1, wpAny_loadPart' e2, wpAny_forIn_list _ (fun rest b s' => b.1 = none ∧ s' = ⟨hp, g, d, tk, os⟩ ∧ ∃ i, rest = (us.toList.zip vs.toList).drop i ∧ R (.ok (.ret (.bool (!((List.range us.size).drop i).all f)))) ⟨hp, g, d, tk, os⟩) _
    case turn =>
      rintro ⟨y, x⟩ rest b s' ⟨nb, rfl, i, hz, hR⟩
      have li : i < (us.toList.zip vs.toList).length := by
        rcases Nat.lt_or_ge i (us.toList.zip vs.toList).length with z | z
        · exact z
        · rw [List.drop_of_length_le z] at hz
          cases hz
      have l1 : i < us.size := lz ▸ li
      have l2 : i < vs.size := len ▸ l1
      rw [List.drop_eq_getElem_cons li] at hz
      obtain ⟨hyx, hrest⟩ := List.cons.inj hz
      have ey : y = us[i] := by simpa using congrArg Prod.fst hyx
      have ex : x = vs[i] := by simpa using congrArg Prod.snd hyx
      subst ey ex
      rw [show (List.range us.size).drop i = i :: (List.range us.size).drop (i + 1) by simp [List.drop_eq_getElem_cons, l1], List.all_cons] at hR
      refine wpAny_bind (ps i l1 l2 _ _ ?_)
      cases fi : f i with
      | true =>
        rw [fi] at hR
        wp_walk
        exact ⟨rfl, rfl, i + 1, hrest, by simpa using hR⟩
      | false =>
        rw [fi] at hR
        wp_walk
        simpa using hR
    case fin =>
      rintro ⟨b1, b2⟩ s' ⟨nb, rfl, i, hz, hR⟩
      dsimp only at nb
      subst nb
      have li : us.size ≤ i := by
        rcases Nat.lt_or_ge i (us.toList.zip vs.toList).length with z | z
        · rw [List.drop_eq_getElem_cons z] at hz
          cases hz
        · exact lz ▸ z
      rw [List.drop_of_length_le (by simpa using li)] at hR
      wp_walk
      simpa [Builtin.Tuple.tupleCompareSizes, len, bne] using hR
    case h => exact ⟨rfl, rfl, 0, rfl, by simpa using fin⟩
  exact wpAny_richCompare_same_room (op := .NotEq) t1 t2 F.slot_tuple_ne (call_meetsIn F.slot_tuple_ne t1 F.entry_tuple_ne (F.args_tuple_ne_2 _ _) body ⟨g1, g2, ps, (fun x => nomatch x), fin⟩) hu
end
end PySem.SeqAt
namespace PySem.W
open SeqAt (EqP)
theorem neDicts {P : Program} {w : World} {κ : Type} [DecidableEq κ] {knd : PySem.KeyKind P w κ} {A : Around} {s : Shared} {p q : Addr} {us vs : List (κ × Value)} {r : Bool} (n1 : (p == sysModules) = false) (n2 : (q == sysModules) = false) (d1 : s.heap.DictOf knd p us) (d2 : s.heap.DictOf knd q vs) (hu : A.units < cLine)
    (hits : us.length = vs.length → KeqHitsP P w A.in1 s vs us r) (E Q : Value → Shared → Prop) (fin : Q (.bool (!(us.length == vs.length && r))) s) : wpAny (model P w) A (richCompare .NotEq (.ref p) (.ref q)) Q E s := by
  refine wpAny_richCompare_same_room (op := .NotEq) d1.typeIs d2.typeIs PySem.F.slot_dict_ne (wpAny_call_entry PySem.F.slot_dict_ne d1.typeIs PySem.F.entry_dict_ne ?_ (PySem.F.args_dict_ne_2 _ _)) hu
  show wpAny _ _ (Builtin.Dict.dictSlotArgs "__ne__" ⟨[.ref p, .ref q], []⟩ >>= _) _ _ s
  unfold Builtin.Dict.dictSlotArgs
  refine wpAny_bind (wpAny_bind (wpAny_notOrdered_dict d1.typeIs ?_))
  refine wpAny_pure ?_
  refine wpAny_bind (wpAny_isInstance (T := "dict") d2.typeIs PySem.F.sub_dict_dict ?_)
  simp only [Bool.not_true, Bool.false_eq_true, if_false]
  refine wpAny_bind (wpAny_pure (wpAny_bind (wpAny_pure ?_)))
  refine wpAny_bind (samePairsP n1 n2 d1 d2 hits ?_)
  exact wpAny_pure ⟨_, rfl, (fun x => nomatch x), by simpa using fin⟩
end PySem.W

set_option Elab.async false
set_option linter.all false
set_option maxRecDepth 100000
set_option maxHeartbeats 4000000
/-! == and != of what is nested: lists, tuples and dicts of flat values and of the same objects, with either answer -/
namespace Pu
open PySem PySem.Spec PyProof.Rows L2
/-- the answers, part by part -/
inductive Ansd (F : V → V → Bool → Prop) : List V → List V → List Bool → Prop
  | nil : Ansd F [] [] []
  | cons {x y : V} {r : Bool} {xs ys : List V} {rs : List Bool} (h : F x y r) (t : Ansd F xs ys rs) : Ansd F (x :: xs) (y :: ys) (r :: rs)
theorem Ansd.len {F : V → V → Bool → Prop} {xs ys : List V} {rs : List Bool} (h : Ansd F xs ys rs) : xs.length = ys.length ∧ rs.length = xs.length := by
  induction h with
  | nil => exact ⟨rfl, rfl⟩
  | cons _ _ ih => exact ⟨congrArg (· + 1) ih.1, congrArg (· + 1) ih.2⟩
theorem Ansd.mono {F G : V → V → Bool → Prop} {xs ys : List V} {rs : List Bool} (h : Ansd F xs ys rs) (k : ∀ x y r, F x y r → G x y r) : Ansd G xs ys rs := by
  induction h with
  | nil => exact .nil
  | cons h _ ih => exact .cons (k _ _ _ h) ih
/-- the answer for the dicts ks and ls -/
inductive Keyd (F : V → V → Bool → Prop) (ls : List (Key × V)) : List (Key × V) → Bool → Prop
  | nil : Keyd F ls [] true
  | miss {k : Key} {x : V} {ks : List (Key × V)} (h : valV ls k = none) : Keyd F ls ((k, x) :: ks) false
  | hit {k : Key} {x y : V} {r q : Bool} {ks : List (Key × V)} (h : valV ls k = some y) (e : F x y r) (t : Keyd F ls ks q) : Keyd F ls ((k, x) :: ks) (r && q)
/-- two objects of one kind -/
def RcB (K : PySem.W.Frag) (H : Hp) (F : V → V → Bool → Prop) (x y : V) (r : Bool) : Prop := ∃ a b, x = .ref a ∧ y = .ref b ∧ (a = b → r = true) ∧
  ((∃ xs ys rs, SqL K H a xs ∧ SqL K H b ys ∧ Ansd F xs ys rs ∧ r = rs.all id) ∨ (∃ xs ys, SqL K H a xs ∧ SqL K H b ys ∧ xs.length ≠ ys.length ∧ r = false) ∨
   (∃ xs ys rs, SqT K H a xs ∧ SqT K H b ys ∧ Ansd F xs ys rs ∧ r = rs.all id) ∨
   (∃ ks ls q, H a = some (.dK ks) ∧ H b = some (.dK ls) ∧ ks.length = ls.length ∧ Keyd F ls ks q ∧ r = q) ∨ ∃ ks ls, H a = some (.dK ks) ∧ H b = some (.dK ls) ∧ ks.length ≠ ls.length ∧ r = false)
/-- two values, nested n deep at most -/
def EqB (K : PySem.W.Frag) (H : Hp) : Nat → V → V → Bool → Prop
  | 0 => fun _ _ _ => False
  | n + 1 => fun x y r => (flatV x = true ∧ flatV y = true ∧ r = eqV x y) ∨ (∃ a, x = .ref a ∧ y = .ref a ∧ r = true) ∨ RcB K H (EqB K H n) x y r
theorem ansd_run {P : Program} {w : World} {A : Around} {s : Shared} {F : V → V → Bool → Prop} (ih : ∀ x y r v u, F x y r → RelV x v → RelV y u → SeqAt.EqP P w A s v u r) {xs ys : List V} {rs : List Bool} (hp : Ansd F xs ys rs) :
    ∀ {us ws : List Value}, Vals xs us → Vals ys ws → ∀ j (h1 : j < us.length) (h2 : j < ws.length), SeqAt.EqP P w A s us[j] ws[j] (rs.getD j true) := by
  induction hp with
  | nil =>
    intro us ws r1 r2 j h1 h2
    cases r1
    exact absurd h1 (Nat.not_lt_zero j)
  | cons h _ k =>
    intro us ws r1 r2 j h1 h2
    cases r1 with
    | cons a1 b1 =>
      cases r2 with
      | cons a2 b2 =>
        cases j with
        | zero => exact ih _ _ _ _ _ h a1 a2
        | succ j => exact k b1 b2 j (Nat.lt_of_succ_lt_succ h1) (Nat.lt_of_succ_lt_succ h2)
theorem all_getD : ∀ rs : List Bool, (List.range rs.length).all (fun j => rs.getD j true) = rs.all id
  | [] => rfl
  | r :: rs => by
    rw [List.length_cons, List.range_succ_eq_map, List.all_cons, List.all_map, List.all_cons, ← all_getD rs]
    rfl
theorem keyd_run {P : Program} {w : World} {A : Around} {s : Shared} {F : V → V → Bool → Prop} (ih : ∀ x y r v u, F x y r → RelV x v → RelV y u → SeqAt.EqP P w A s v u r) {ls : List (Key × V)} {vb : List (Key × Value)} (rb : KV ls vb) {ks : List (Key × V)} {q : Bool} (h : Keyd F ls ks q) :
    ∀ {va : List (Key × Value)}, KV ks va → PySem.W.KeqHitsP P w A s vb va q := by
  induction h with
  | nil =>
    intro va ra
    cases ra
    exact .nil
  | @miss k x ks h =>
    intro va ra
    cases ra with
    | @cons _ p _ ps h1 t =>
      obtain ⟨e1, e2⟩ := h1
      obtain ⟨key, v⟩ := p
      have e1 : k = key := e1
      subst e1
      have rr : RelO none (valueAt vb k) := by rw [← h]; exact rb.val k
      refine .miss ?_
      cases hv : valueAt vb k with
      | none => rfl
      | some y => rw [hv] at rr; exact rr.elim
  | @hit k x y r q ks h e t ih2 =>
    intro va ra
    cases ra with
    | @cons _ p _ ps h1 t1 =>
      obtain ⟨e1, e2⟩ := h1
      obtain ⟨key, v⟩ := p
      have e1 : k = key := e1
      subst e1
      have rr : RelO (some y) (valueAt vb k) := by rw [← h]; exact rb.val k
      obtain ⟨z, hz, rz⟩ := rr.some_of
      exact .hit hz (ih _ _ _ _ _ e e2 rz) (ih2 t1)
section
variable {X : Cx} {pins : List (Addr × Obj)} {σ : L2.St} {H : Hp} {s : Shared}
theorem rcB_run (I : Inv X pins σ H s) {A : Around} {F : V → V → Bool → Prop} (hu : A.units < cLine) (ih : ∀ x y r v u, F x y r → RelV x v → RelV y u → SeqAt.EqP X.prog X.w A.in1 s v u r) {x y : V} {r : Bool} {v u : Value} (h : RcB X.K H F x y r) (rx : RelV x v) (ry : RelV y u) (E Q : Value → Shared → Prop) :
    (Q (.bool r) s → wpAny (model X.prog X.w) A (richCompare .Eq v u) Q E s) ∧ (Q (.bool (!r)) s → wpAny (model X.prog X.w) A (richCompare .NotEq v u) Q E s) := by
  obtain ⟨a, b, rfl, rfl, _, h⟩ := h
  cases (show v = Value.ref a from rx)
  cases (show u = Value.ref b from ry)
  rcases h with ⟨xs, ys, rs, ha, hb, hp, rfl⟩ | ⟨xs, ys, ha, hb, hne, rfl⟩ | ⟨xs, ys, rs, ha, hb, hp, rfl⟩ | ⟨ks, ls, q, ha, hb, hl, hk, rfl⟩ | ⟨ks, ls, ha, hb, hl, rfl⟩
  · obtain ⟨us, r1, p1, _⟩ := I.list ha
    obtain ⟨ws, r2, p2, _⟩ := I.list hb
    obtain ⟨l1, l2⟩ := hp.len
    have hsz : us.toArray.size = ws.toArray.size := by
      rw [List.size_toArray, List.size_toArray, ← r1.length, ← r2.length]
      exact l1
    have all : (List.range us.toArray.size).all (fun j => rs.getD j true) = rs.all id := by
      rw [List.size_toArray, ← r1.length, ← l2]
      exact all_getD rs
    have parts : ∀ j (h1 : j < us.toArray.size) (h2 : j < ws.toArray.size), SeqAt.EqP X.prog X.w A.in1 s us.toArray[j] ws.toArray[j] (rs.getD j true) := fun j h1 h2 => by
      have k := ansd_run ih hp r1 r2 j (by simpa using h1) (by simpa using h2)
      simpa using k
    exact ⟨fun q => SeqAt.rcP_lists (e := fun j => rs.getD j true) p1.isList p2.isList hsz hu parts E Q (by rw [all]; exact q), fun q => SeqAt.neLists (f := fun j => rs.getD j true) p1.isList p2.isList hsz hu parts E Q (by rw [all]; exact q)⟩
  · obtain ⟨us, r1, p1, _⟩ := I.list ha
    obtain ⟨ws, r2, p2, _⟩ := I.list hb
    have hsz : (us.toArray.size != ws.toArray.size) = true := by
      rw [List.size_toArray, List.size_toArray, ← r1.length, ← r2.length]
      simpa using hne
    exact ⟨fun q => SeqAt.RcAt.lists_lengths p1.isList p2.isList hsz hu _ _ _ _ q, fun q => SeqAt.RcNeAt.lists_lengths p1.isList p2.isList hsz hu _ _ _ _ q⟩
  · obtain ⟨us, r1, p1, _⟩ := I.tuple ha
    obtain ⟨ws, r2, p2, _⟩ := I.tuple hb
    obtain ⟨l1, l2⟩ := hp.len
    have hsz : us.toArray.size = ws.toArray.size := by
      rw [List.size_toArray, List.size_toArray, ← r1.length, ← r2.length]
      exact l1
    have all : (List.range us.toArray.size).all (fun j => rs.getD j true) = rs.all id := by
      rw [List.size_toArray, ← r1.length, ← l2]
      exact all_getD rs
    have parts : SeqAt.Parts X.prog X.w A.in1 s us.toArray ws.toArray (fun j => rs.getD j true) := fun j h1 h2 => by
      have k := ansd_run ih hp r1 r2 j (by simpa using h1) (by simpa using h2)
      simpa using k
    exact ⟨fun q => SeqAt.eqTuples p1 p2 hsz hu parts E Q (by rw [all]; exact q), fun q => SeqAt.neTuples p1 p2 hsz hu parts E Q (by rw [all]; exact q)⟩
  · obtain ⟨_, ya, va, ra, da⟩ := (show ObjOk X.prog X.w H s.heap a (.dK ks) from I.hok a _ ha)
    obtain ⟨_, yb, vb, rb, db⟩ := (show ObjOk X.prog X.w H s.heap b (.dK ls) from I.hok b _ hb)
    have e : va.length = vb.length := by rw [← ra.length, ← rb.length]; exact hl
    exact ⟨fun z => PySem.W.rcP_dicts (knd := mixKind X.prog X.w) ya yb da db hu (fun _ => keyd_run ih rb hk ra) E Q (by rw [e, beq_self_eq_true, Bool.true_and]; exact z),
      fun z => PySem.W.neDicts (knd := mixKind X.prog X.w) ya yb da db hu (fun _ => keyd_run ih rb hk ra) E Q (by rw [e, beq_self_eq_true, Bool.true_and]; exact z)⟩
  · obtain ⟨_, ya, va, ra, da⟩ := (show ObjOk X.prog X.w H s.heap a (.dK ks) from I.hok a _ ha)
    obtain ⟨_, yb, vb, rb, db⟩ := (show ObjOk X.prog X.w H s.heap b (.dK ls) from I.hok b _ hb)
    have e : va.length ≠ vb.length := by rw [← ra.length, ← rb.length]; exact hl
    have e2 : (va.length == vb.length) = false := by simpa using e
    exact ⟨fun z => PySem.W.rcP_dicts (knd := mixKind X.prog X.w) (r := true) ya yb da db hu (fun z => absurd z e) E Q (by rw [e2, Bool.false_and]; exact z),
      fun z => PySem.W.neDicts (knd := mixKind X.prog X.w) (r := true) ya yb da db hu (fun z => absurd z e) E Q (by rw [e2, Bool.false_and]; exact z)⟩
theorem eqB_run (I : Inv X pins σ H s) : ∀ (n : Nat) (A : Around), A.units + n < cLine → ∀ (x y : V) (r : Bool) (v u : Value), EqB X.K H n x y r → RelV x v → RelV y u → SeqAt.EqP X.prog X.w A s v u r
  | 0, _, _, _, _, _, _, _, h, _, _ => (show False from h).elim
  | n + 1, A, hu, x, y, r, v, u, h, rx, ry => by
    rcases h with ⟨f1, f2, rfl⟩ | ⟨a, rfl, rfl, rfl⟩ | h
    · exact (eqAt_V rx ry f1 f2).eqP
    · cases (show v = Value.ref a from rx)
      cases (show u = Value.ref a from ry)
      exact (SeqAt.EqAt.same _).eqP
    · have step := fun E Q => (rcB_run I (A := A) (by omega) (eqB_run I n A.in1 (by show A.units + 1 + n < cLine; omega)) h rx ry E Q).1
      obtain ⟨a, b, rfl, rfl, h3, h2⟩ := h
      cases (show v = Value.ref a from rx)
      cases (show u = Value.ref b from ry)
      by_cases e : a = b
      · subst e
        rw [h3 rfl]
        exact (SeqAt.EqAt.same _).eqP
      · exact SeqAt.eqP_refs e step
/-- x == y, x != y -/
def rEqB (K : PySem.W.Frag) (neg : Bool) : R2 := fun x y H Q => ∃ n r, n ≤ 60 ∧ RcB K H (EqB K H n) x y r ∧ Q (.bl (if neg then !r else r)) H
theorem op_eqB {X : Cx} {k : Nat} (K : PySem.W.Frag) (hr : Room k X.A) (h : X.K = K := by rfl) : OpR X (compareOp .Eq) (rEqB K false) := by
  subst h
  intro pins s σ H x y v u Q I rx ry h
  obtain ⟨n, r, hn, h, q⟩ := h
  have hu := hr.units
  exact (rcB_run I (A := X.A) (by omega) (eqB_run I n X.A.in1 (by show X.A.units + 1 + n < cLine; omega)) h rx ry _ _).1 ⟨.bl r, H, I, rfl, q⟩
theorem op_neB {X : Cx} {k : Nat} (K : PySem.W.Frag) (hr : Room k X.A) (h : X.K = K := by rfl) : OpR X (compareOp .NotEq) (rEqB K true) := by
  subst h
  intro pins s σ H x y v u Q I rx ry h
  obtain ⟨n, r, hn, h, q⟩ := h
  have hu := hr.units
  exact (rcB_run I (A := X.A) (by omega) (eqB_run I n X.A.in1 (by show X.A.units + 1 + n < cLine; omega)) h rx ry _ _).2 ⟨.bl (!r), H, I, rfl, q⟩
end
/-! ### the pieces by hand -/
section
variable {K : PySem.W.Frag} {H : Hp}
theorem eqb_flat {n : Nat} {x y : V} (h1 : flatV x = true) (h2 : flatV y = true) : EqB K H (n + 1) x y (eqV x y) := .inl ⟨h1, h2, rfl⟩
theorem eqb_same {n : Nat} {a : Addr} : EqB K H (n + 1) (.ref a) (.ref a) true := .inr (.inl ⟨a, rfl, rfl, rfl⟩)
theorem eqb_obj {n : Nat} {x y : V} {r : Bool} (h : RcB K H (EqB K H n) x y r) : EqB K H (n + 1) x y r := .inr (.inr h)
theorem eqV_self {x : V} (h : flatV x = true) : eqV x x = true := by
  cases x with
  | non => rfl
  | bl b => exact beq_self_eq_true b
  | int i => exact beq_self_eq_true i
  | str z => exact beq_self_eq_true z
  | _ => cases h
/-- the same, flat or an object -/
def AnyV : V → Prop
  | .ref _ => True
  | v => flatV v = true
theorem eqb_refl {n : Nat} {x : V} (h : AnyV x) : EqB K H (n + 1) x x true := by
  have f : ∀ {v : V}, flatV v = true → EqB K H (n + 1) v v true := fun {v} hv => .inl ⟨hv, hv, (eqV_self hv).symm⟩
  cases x with
  | ref a => exact eqb_same
  | non => exact f rfl
  | bl b => exact f rfl
  | int i => exact f rfl
  | str z => exact f rfl
  | _ => exact f h
theorem ansd_all {F : V → V → Bool → Prop} {xs ys : List V} (h : xs.length = ys.length) (k : ∀ (i : Nat) x y, xs[i]? = some x → ys[i]? = some y → F x y true) : Ansd F xs ys (xs.map fun _ => true) := by
  induction xs generalizing ys with
  | nil =>
    cases ys with
    | nil => exact .nil
    | cons _ _ => cases h
  | cons x r ih =>
    cases ys with
    | nil => cases h
    | cons y t => exact .cons (k 0 x y rfl rfl) (ih (Nat.succ.inj h) fun i x y h1 h2 => k (i + 1) x y h1 h2)
theorem all_true {α : Type} (xs : List α) : (xs.map fun _ => true).all id = true := by
  rw [List.all_map, List.all_eq_true]
  intro _ _
  rfl
/-- two dicts with the same values -/
theorem keyd_all {F : V → V → Bool → Prop} {ls : List (Key × V)} : ∀ {ks : List (Key × V)}, (∀ p ∈ ks, ∃ y, valV ls p.1 = some y ∧ F p.2 y true) → Keyd F ls ks true
  | [], _ => .nil
  | (k, x) :: r, h => by
    obtain ⟨y, h1, h2⟩ := h (k, x) (List.mem_cons_self ..)
    exact .hit (r := true) (q := true) h1 h2 (keyd_all fun p hp => h p (List.mem_cons_of_mem _ hp))
/-- two dicts of flat values: with either answer -/
theorem keyd_flat {n : Nat} {ls : List (Key × V)} : ∀ {ks : List (Key × V)}, (∀ p ∈ ks, flatV p.2 = true ∧ ∃ y, valV ls p.1 = some y ∧ flatV y = true) → Keyd (EqB K H (n + 1)) ls ks (ks.all fun p => match valV ls p.1 with | some y => eqV p.2 y | none => false)
  | [], _ => .nil
  | (k, x) :: r, h => by
    obtain ⟨h0, y, h1, h2⟩ := h (k, x) (List.mem_cons_self ..)
    have t := keyd_flat (n := n) (ks := r) fun p hp => h p (List.mem_cons_of_mem _ hp)
    have e : (((k, x) :: r).all fun p => match valV ls p.1 with | some y => eqV p.2 y | none => false) = (eqV x y && r.all fun p => match valV ls p.1 with | some y => eqV p.2 y | none => false) := by
      rw [List.all_cons]
      dsimp only
      rw [h1]
    rw [e]
    exact .hit h1 (eqb_flat h0 h2) t
end
end Pu

set_option Elab.async false
set_option linter.all false
set_option maxRecDepth 100000
set_option maxHeartbeats 4000000
/-! an own class made with two values, its one keyword-only parameter left out or written -/
namespace Pu
open PySem PySem.Spec PyProof.Rows L2
structure CalMk (P : Program) (w : World) (K : PySem.W.Frag) (mg : Str → Option Value) (base : Heap) (CX : CXT) (k : Nat) (x : Str) (C : Addr) (kw : Str) (sp : Sp) : Prop where
  ex : ∃ (f : Addr) (fd : FuncData) (ps : List Str) (ds : List Value) (g : List Value → List Value → List Value), Mk K C f ∧ FnOk P w K mg base CX k f fd ps sp ∧ mg x = some (.ref C) ∧ Binds K fd ps ds ∧ Vals [.non] ds ∧ KBn K fd ps 3 [kw] g (fun vs zs => vs ++ zs)
section
variable {X : Cx} {CX : CXT} {k j : Nat} {x kw : Str} {C : Addr} {sp : Sp} {E : XK} {e : Expr} {es : List Expr} {kws : List Keyword} {t tk : TA} {p pos : Pos}
theorem pe_mk (c : CalMk X.prog X.w X.K X.mg X.base CX k x C kw sp) (hr : Room j X.A) (hk : k + 1 ≤ j) (hg : Gl X x) (hx : Passes CX X E) (ha : PA X (e :: es) t)
    (hdb : (x == ("__debug__" : Str)) = false := by decide) (he : starEach (e :: es) X.env = (false, eval e X.env) :: starEach es X.env := by rfl) (hpl : (backTo pos (starEach es X.env)).any (·.1) = false := by rfl) :
    PE X (.Call (.Name x p) (e :: es) [] pos) (tMake C sp [.non] E t) := by
  obtain ⟨f, fd, ps, ds, g, M, F, hm, b, d, kb⟩ := c.ex
  exact pe_make M F (hr.mono hk) hg hm b d hx ha hdb he hpl
theorem pe_mkK (c : CalMk X.prog X.w X.K X.mg X.base CX k x C kw sp) (hr : Room j X.A) (hk : k + 1 ≤ j) (hg : Gl X x) (hx : Passes CX X E) (ha : PA X (e :: es) t) (hw : PK X kws tk)
    (hall : (backToKw pos (keywordEach kws X.env)).all (·.1.isSome) = true := by rfl) (hks : (backToKw pos (keywordEach kws X.env)).filterMap (·.1) = [kw] := by rfl)
    (hdb : (x == ("__debug__" : Str)) = false := by decide) (he : starEach (e :: es) X.env = (false, eval e X.env) :: starEach es X.env := by rfl)
    (hpl : ((backTo pos (starEach (e :: es) X.env)).any (·.1) || (backToKw pos (keywordEach kws X.env)).any (·.1.isNone)) = false := by rfl) :
    PE X (.Call (.Name x p) (e :: es) kws pos) (tMakeK C 2 1 sp (fun vs zs => vs ++ zs) E t tk) := by
  obtain ⟨f, fd, ps, ds, g, M, F, hm, b, d, kb⟩ := c.ex
  exact pe_makeK M F (hr.mono hk) hg hm kb hx ha hw hall hks hdb he hpl
end
end Pu

set_option Elab.async false
set_option linter.all false
set_option maxRecDepth 100000
set_option maxHeartbeats 4000000
/-! several except clauses, each with a name for the error; calls of what stands at a place of a list; raising calls -/
namespace Pu
open PySem PySem.Spec PyProof.Rows L2
/-- behind a clause its name (slot i) is gone -/
def goneD (i : Nat) (D : Ends) : Ends := { nx := fun σ H => D.nx (σ.set i none) H, rt := D.rt, bk := fun σ H => D.bk (σ.set i none) H, ct := fun σ H => D.ct (σ.set i none) H }
/-- what the clauses wish, one by one -/
def wClauses (K : PySem.W.Frag) (i : Nat) (Wout : WX) (D : Ends) : List (Value × (Addr → Value → Option Addr → TS)) → WX
  | [] => Wout
  | (c, ts) :: more => fun cls d σ H => ∃ hit, PySem.W.exmOne K cls c = some hit ∧ (hit = true → ∀ a, H a = none → ts a cls d (goneD i D) (σ.set i (some (.ref a))) H) ∧ (hit = false → wClauses K i Wout D more cls d σ H)
inductive Clauses (X : Cx) (n : Str) : List ExceptHandler → List (Value × (Addr → Value → Option Addr → TS)) → Prop
  | nil : Clauses X n [] []
  | cons {x : Str} {c : Value} {ts : Addr → Value → Option Addr → TS} {st : Stmt} {sts : List Stmt} {p1 p2 : Pos} {hs : List ExceptHandler} {l : List (Value × (Addr → Value → Option Addr → TS))} (name : Names X x c)
      (suite : ∀ (a : Addr) (o : Obj) (cls : Value) (d : Option Addr) (pn : List (Addr × Obj)), Zc cls d o → (∃ vs, o.data = .fields vs) → PSs (X.suite a ((a, o) :: pn)) (st :: sts) (ts a cls d)) (more : Clauses X n hs l) :
      Clauses X n (.ExceptHandler (some (.Name x p1)) (some n) (st :: sts) p2 :: hs) ((c, ts) :: l)
section
variable {X : Cx} {n : Str} {i : Nat} {body : List Stmt} {h : ExceptHandler} {hs : List ExceptHandler} {l : List (Value × (Addr → Value → Option Addr → TS))} {pos : Pos} {tb : WX → TS} {Wout : WX}
theorem ps_clauses (stk : X.stack = X.env :: X.outer) (fr : X.env.frame = some X.env.locals) (nd : X.N.Nodup) (at_i : X.N[i]? = some n) (loc : X.env.kindOf n = some .local) (tk : Takes X Wout)
    (walk : ∀ (W : WX) (pn : List (Addr × Obj)) (xe : Value → Shared → Prop), Takes (X.tr pn xe) W → PassesOwn (model X.prog X.w) X.A X.env xe → PSs (X.tr pn xe) body (tb W))
    (all : Clauses X n (h :: hs) l) : PS X (.Try body (h :: hs) [] [] pos) (fun D σ H => tb (wClauses X.K i Wout D l) D σ H) := by
  constructor
  intro pins s σ H D I read
  have ok := I.ok
  have frames : X.A.frames = some (X.env :: X.outer) := by rw [ok.frames, stk]
  let M := model X.prog X.w
  let caught : Value → Shared → Prop := fun e s1 => wpAny M X.A (noteFrame e X.env) (fun _ s2 => wpAny M X.A (setFlight e none) (fun _ s3 => wpAny M X.A (handleBy e X.env (h :: hs)) (SP X pins D) X.xe s3) X.xe s2) X.xe s1
  refine wpAny_Try_except ?_
  have inner := (walk (wClauses X.K i Wout D l) (X.pn ++ pins) caught ?taken PassesOwn.looking).run [] s σ H D (I.toTry _) read
  case taken =>
    rintro _ s' ⟨a, B, s0, pn', σ', H', cls, d, rfl, J0, nb, up, sky, na, os, ag, wish⟩
    have J := J0.ofTry ok
    have sky2 : Sky B (X.env :: X.outer) a (Zc cls d) X.env.locals s'.heap := stk ▸ sky
    show wpAny M X.A (noteFrame (.ref a) X.env) _ _ _
    refine Sky.land Zc.steady frames fr sky2 fun g fly up2 => ?_
    have K1 := J.landed (s' := { s' with heap := g }) nb fly.1 (up.trans up2) os ag
    obtain ⟨o1, vs1, a1, z1, d1⟩ := fly.there
    have noFrame : a ∉ frs (X.env :: X.outer) := fun hm => by
      obtain ⟨_, o2, a2, nf⟩ := fly.2.2.1.mem hm
      rw [a1] at a2
      cases a2
      exact nf _ d1
    have notL : a ≠ X.env.locals := fun z => noFrame (List.mem_filterMap.mpr ⟨X.env, List.mem_cons_self, by rw [fr, z]⟩)
    have notF : a ∉ X.fs := fun hm => by
      obtain ⟨e, he, q⟩ := List.mem_filterMap.mp hm
      exact noFrame (List.mem_filterMap.mpr ⟨e, List.mem_cons_of_mem _ he, q⟩)
    have S1 := K1.suite a1 d1 na notL notF
    have chain : ∀ {hs' : List ExceptHandler} {l' : List (Value × (Addr → Value → Option Addr → TS))}, Clauses X n hs' l' → wClauses X.K i Wout D l' cls d σ' H' → wpAny M X.A (handleBy (.ref a) X.env hs') (SP X pins D) X.xe { s' with heap := g } := by
      intro hs' l' cl
      induction cl with
      | nil =>
        intro w
        refine wpAny_handleBy_nil ?_
        obtain ⟨_, _, _, o, vs, T, _, _, ha, _, hd, h1, _⟩ := id fly
        have out : wpAny M X.A (setFlight (.ref a) X.env.frame) (fun _ s4 => wpAny M X.A (throw (.ref a) : Sem Flow) (SP X pins D) X.xe s4) X.xe { s' with heap := g } := by
          rw [fr]
          exact HandSPX.setFlight_upZ fly fun g2 fly2 up3 => wpAny_throw (tk _ _ ⟨a, B, s0, pins, σ', H', cls, d, rfl, J, nb, (up.trans up2).trans up3, .inr (.inr (stk ▸ fly2)), na, os, ag, w⟩)
        unfold PySem.passOn
        refine wpAny_bind (wpAny_field ha hd h1 ?_)
        rw [if_neg (by simp)]
        first
          | exact wpAny_bind (wpAny_pure (wpAny_bind out))
          | exact wpAny_bind out
      | @cons x c ts st sts p1 p2 hs2 l2 name suite more ih =>
        rintro ⟨hit, eq, yes, no⟩
        refine wpAny_handleBy_cons (codeAny_handlers_test ?_) (by intro q; cases q)
        have LT : PySem.W.Looks M g (typeOf (.ref a)) cls := fun A Q E s k q => wpAny_typeOf_ref (k _ _ a1) (by rw [z1.1]; exact q)
        have LM := PySem.W.exm_one (M := M) K1.kIn LT eq
        have named : ∀ {Q : Value → Shared → Prop} {E : Value → Shared → Prop}, Q c { s' with heap := g } → wpAny M (X.A.mark (some (.ref a))) (eval (.Name x p1) X.env) Q E { s' with heap := g } := fun {Q E} q => by
          obtain ⟨hg, hdb, hm | ⟨hm, hv, hnn⟩⟩ := name
          · exact ld_glob (X := X.suite a ((a, o1) :: (X.pn ++ pins))) S1 hg hm q hdb
          · exact ld_blt (X := X.suite a ((a, o1) :: (X.pn ++ pins))) S1 hg hm hv q hnn hdb
        refine named (LM.here ?_)
        cases hit with
        | false => exact ih (no rfl)
        | true =>
          refine codeAny_handlers_suite_as (HandSPX.lands_againZ fly fun g2 fly2 up3 => ?_)
          have K2 := J.landed (s' := { s' with heap := g2 }) nb fly2.1 ((up.trans up2).trans up3) os ag
          obtain ⟨o2, vs2, a2, z2, d2⟩ := fly2.there
          have S2 := K2.suite a2 d2 na notL notF
          refine store_ok (X := X.suite a ((a, o2) :: (X.pn ++ pins))) (v := .ref a) S2 nd at_i (.inl loc) rfl (fun s5 S5 => ?_) (.inr loc)
          refine wpAny_mono ((suite a o2 cls d (X.pn ++ pins) z2 ⟨_, d2⟩).run [] s5 _ H' _ S5 (yes rfl a na)) (fun fl s6 done => ?_) fun _ _ z => z.elim
          have gone : ∀ {σ6 : L2.St} {H6 : Hp} {Q : Shared → Prop}, Inv (X.suite a ((a, o2) :: (X.pn ++ pins))) [] σ6 H6 s6 → (∀ s7, Inv X pins (σ6.set i none) H6 s7 → Q s7) → wpAny M X.A (do bindName X.env n .none; unbindBehindTheSuite X.env n p2) (fun _ s7 => Q s7) X.xe s6 :=
            fun S6 k => gone_ok (S6.unsuite ok) nd at_i loc k
          match fl, done with
          | .next, ⟨_, _, S6, q6⟩ => exact gone S6 fun s7 J7 => ⟨_, _, J7, q6⟩
          | .brk, ⟨_, _, S6, q6⟩ => exact gone S6 fun s7 J7 => ⟨_, _, J7, q6⟩
          | .cont, ⟨_, _, S6, q6⟩ => exact gone S6 fun s7 J7 => ⟨_, _, J7, q6⟩
          | .ret u, ⟨_, _, _, S6, r6, q6⟩ => exact gone S6 fun s7 J7 => ⟨_, _, _, J7, r6, q6⟩
    exact chain all wish
  refine wpAny_mono inner (fun fl s1 done => ?_) fun e s1 z => z
  match fl, done with
  | .next, ⟨σ', H', J, q⟩ => exact wpAny_execs_nil ⟨σ', H', J.ofTry ok, q⟩
  | .brk, ⟨σ', H', J, q⟩ => exact ⟨σ', H', J.ofTry ok, q⟩
  | .cont, ⟨σ', H', J, q⟩ => exact ⟨σ', H', J.ofTry ok, q⟩
  | .ret u, ⟨v, σ', H', J, r, q⟩ => exact ⟨v, σ', H', J.ofTry ok, r, q⟩
end
/-! ### a def called that stands at a place of a list -/
structure CalF (P : Program) (w : World) (K : PySem.W.Frag) (mg : Str → Option Value) (base : Heap) (CX : CXT) (j : Nat) (f : Addr) (sp : Sp) : Prop where
  ex : ∃ (k : Nat) (fd : FuncData) (ps : List Str), k ≤ j ∧ FnOk P w K mg base CX k f fd ps sp ∧ PySem.W.keepIn K (.ref f) = true ∧ Binds K fd ps []
def tCallI (tf : TE) (R : Addr → Sp → Prop) (E : XK) (t : TA) : TE := fun σ H Q => tf σ H fun v H1 => ∃ f sp, v = .ref f ∧ R f sp ∧ t σ H1 fun vs H2 => sp vs H2 Q E
theorem pe_callI {X : Cx} {CX : CXT} {j : Nat} {E : XK} {a i e : Expr} {es : List Expr} {p pos : Pos} {tf : TE} {t : TA} (R : Addr → Sp → Prop) (hf : PE X (.Subscript a i p) tf) (hR : ∀ f sp, R f sp → CalF X.prog X.w X.K X.mg X.base CX j f sp) (hr : Room j X.A) (hx : Passes CX X E) (ha : PA X (e :: es) t)
    (he : starEach (e :: es) X.env = (false, eval e X.env) :: starEach es X.env := by rfl) (hpl : (backTo pos (starEach es X.env)).any (·.1) = false := by rfl) : PE X (.Call (.Subscript a i p) (e :: es) [] pos) (tCallI tf R E t) := by
  constructor
  intro pins s σ H Q I h
  show wpAny _ _ (eval (.Subscript a i p) X.env >>= fun f => callWith pos f [] (backTo pos (starEach (e :: es) X.env)) (backToKw pos (keywordEach [] X.env))) _ _ _
  refine wpAny_bind (thn (hf.run pins s σ H _ I h) ?_)
  rintro u s1 ⟨v, H1, I1, rv, f, sp, rfl, hfr, q⟩
  obtain rfl : u = Value.ref f := rv
  obtain ⟨k, fd, ps, hk, F, kp, b⟩ := (hR f sp hfr).ex
  refine PySem.W.callWith_K (h₀ := X.base) I1.ok.mod.kin kp (thn (ha.run pos pins s1 σ H1 _ I1 q) ?_) he hpl
  rintro us s2 ⟨vs, H2, I2, r, q2⟩
  exact ⟨I2.kIn, run_fn F (hr.mono hk) b .nil hx I2 r (by rw [List.append_nil]; exact q2)⟩
/-- a def called with keywords, its errors passed on -/
structure CalNX (P : Program) (w : World) (K : PySem.W.Frag) (mg : Str → Option Value) (base : Heap) (k : Nat) (x : Str) (n : Nat) (ks : List Str) (gV : List V → List V → List V) (sp : Sp) : Prop where
  ex : ∃ (f : Addr) (fd : FuncData) (ps : List Str) (g : List Value → List Value → List Value), FnOk P w K mg base (L2.CX P w) k f fd ps sp ∧ mg x = some (.ref f) ∧ PySem.W.keepIn K (.ref f) = true ∧ KBn K fd ps n ks g gV
theorem pe_cNX {X : Cx} {k j n : Nat} {x : Str} {ks : List Str} {gV : List V → List V → List V} {sp : Sp} {E : XK} {e : Expr} {es : List Expr} {kws : List Keyword} {t tk : TA} {p pos : Pos} (c : CalNX X.prog X.w X.K X.mg X.base k x n ks gV sp) (hr : Room j X.A) (hk : k ≤ j) (hg : Gl X x) (hx : Passes (L2.CX X.prog X.w) X E) (ha : PA X (e :: es) t) (hw : PK X kws tk)
    (hall : (backToKw pos (keywordEach kws X.env)).all (·.1.isSome) = true := by rfl) (hks : (backToKw pos (keywordEach kws X.env)).filterMap (·.1) = ks := by rfl)
    (hdb : (x == ("__debug__" : Str)) = false := by decide) (he : starEach (e :: es) X.env = (false, eval e X.env) :: starEach es X.env := by rfl)
    (hpl : ((backTo pos (starEach (e :: es) X.env)).any (·.1) || (backToKw pos (keywordEach kws X.env)).any (·.1.isNone)) = false := by rfl) : PE X (.Call (.Name x p) (e :: es) kws pos) (tCallN n ks.length sp gV E t tk) := by
  obtain ⟨f, fd, ps, g, F, hm, kp, kb⟩ := c.ex
  exact pe_callN F (hr.mono hk) hg hm kp kb hx ha hw hall hks hdb he hpl
/-! ### a promise, with whatever follows from what it gives -/
def spUp (sp : Sp) : Sp := fun vs H Q E => ∃ (Q0 : VK) (E0 : XK), sp vs H Q0 E0 ∧ (∀ v H', Q0 v H' → Q v H') ∧ ∀ c d H', E0 c d H' → E c d H'
def CXUp (CX : CXT) : Prop := ∀ (outer : List Env) (H : Hp) (s : Shared) (E E' : XK) (u : Value) (s' : Shared), (∀ c d H', E c d H' → E' c d H') → CX outer H s E u s' → CX outer H s E' u s'
theorem cxUp {P : Program} {w : World} : CXUp (L2.CX P w) := by
  rintro outer H s E E' u s' h ⟨a, B, H', cls, d, r1, r2, r3, r4, r5, r6, r7, r8⟩
  exact ⟨a, B, H', cls, d, r1, r2, r3, r4, r5, r6, r7, h _ _ _ r8⟩
theorem cxUp0 : CXUp CX0 := fun _ _ _ _ _ _ _ _ h => h
theorem FnOk.up {P : Program} {w : World} {K : PySem.W.Frag} {mg : Str → Option Value} {base : Heap} {CX : CXT} {k : Nat} {f : Addr} {fd : FuncData} {ps : List Str} {sp : Sp} (F : FnOk P w K mg base CX k f fd ps sp) (U : CXUp CX) : FnOk P w K mg base CX k f fd ps (spUp sp) := by
  constructor
  · rintro vs H Q E ⟨Q0, E0, h, _⟩
    exact F.len _ _ _ _ h
  · rintro A outer s H args us vs Q E hr e0 hb rv ⟨Q0, E0, h, hq, he⟩
    refine codeAny_mono (F.run A outer s H args us vs Q0 E0 hr e0 hb rv h) ?_
    rintro (e | (_ | _ | _ | u)) s' z
    · exact U _ _ _ _ _ _ _ he z
    · exact z
    · exact z
    · exact z
    · obtain ⟨v, H', r1, r2, r3, r4, r5, r6⟩ := z
      exact ⟨v, H', r1, r2, r3, r4, r5, hq _ _ r6⟩
theorem CalX.up {P : Program} {w : World} {K : PySem.W.Frag} {mg : Str → Option Value} {base : Heap} {k : Nat} {x : Str} {sp : Sp} (c : CalX P w K mg base k x sp) : CalX P w K mg base k x (spUp sp) := by
  obtain ⟨f, fd, ps, F, h⟩ := c.ex
  exact ⟨f, fd, ps, FnOk.up F cxUp, h⟩
theorem Cal.up {P : Program} {w : World} {K : PySem.W.Frag} {mg : Str → Option Value} {base : Heap} {k : Nat} {x : Str} {sp : Sp} {dvs : List V} (c : Cal P w K mg base k x sp dvs) : Cal P w K mg base k x (spUp sp) dvs := by
  obtain ⟨f, fd, ps, ds, F, h⟩ := c.ex
  exact ⟨f, fd, ps, ds, FnOk.up F cxUp0, h⟩
theorem spUp_of {sp : Sp} {vs : List V} {H : Hp} {Q : VK} {E : XK} (h : sp vs H Q E) : spUp sp vs H Q E := ⟨Q, E, h, fun _ _ h => h, fun _ _ _ h => h⟩
end Pu

set_option Elab.async false
set_option linter.all false
set_option maxRecDepth 100000
set_option maxHeartbeats 4000000
namespace Pk
open PySem PySem.Spec PyProof.Rows L2 Pu
def topS (i : Nat) : Stmt := PySem.Challenge.pw_pileups_k24_moments_refused.main.body.getD i (.Pass ⟨0, 0, 0, 0⟩)
structure Txt (mg : Str → Option Value) : Prop where
  m_all : mg "all" = none
  m_any : mg "any" = none
  m_bool : mg "bool" = none
  m_dict : mg "dict" = none
  m_enumerate : mg "enumerate" = none
  m_int : mg "int" = none
  m_isinstance : mg "isinstance" = none
  m_len : mg "len" = none
  m_list : mg "list" = none
  m_max : mg "max" = none
  m_min : mg "min" = none
  m_range : mg "range" = none
  m_str : mg "str" = none
  m_sum : mg "sum" = none
  m_tuple : mg "tuple" = none
  m_LETTERS : ∃ t, mg "LETTERS" = some (.str ("abcdefghijklmnopqrstuvwxyz" : Str) t)
  m_LONGEST_NAME : ∃ t, mg "LONGEST_NAME" = some (.int 8 t)
  m_BILLION : ∃ t, mg "BILLION" = some (.int 1000000000 t)
  m_MOST_EVENTS : ∃ t, mg "MOST_EVENTS" = some (.int 8 t)
  m_MOST_TIES : ∃ t, mg "MOST_TIES" = some (.int 60 t)
  m_LONGEST_RUN : ∃ t, mg "LONGEST_RUN" = some (.int 200 t)
abbrev s_is_integer : Stmt := topS 25
theorem sc_is_integer : FnScope ["value"] ["value"] (defScope s_is_integer) := ⟨rfl, rfl, rfl, by decide +kernel, rfl, by decide +kernel, by decide +kernel⟩
abbrev s_is_count : Stmt := topS 26
theorem sc_is_count : FnScope ["value"] ["value"] (defScope s_is_count) := ⟨rfl, rfl, rfl, by decide +kernel, rfl, by decide +kernel, by decide +kernel⟩
abbrev s_is_name : Stmt := topS 27
theorem sc_is_name : FnScope ["value", "letter"] ["value"] (defScope s_is_name) := ⟨rfl, rfl, rfl, by decide +kernel, rfl, by decide +kernel, by decide +kernel⟩
abbrev s_law_cell : Stmt := topS 62
theorem sc_law_cell : FnScope ["_law_script", "_law_k"] ["_law_script", "_law_k"] (defScope s_law_cell) := ⟨rfl, rfl, rfl, by decide +kernel, rfl, by decide +kernel, by decide +kernel⟩
abbrev s_law_box : Stmt := topS 63
theorem sc_law_box : FnScope ["_law_cell_here"] ["_law_cell_here"] (defScope s_law_box) := ⟨rfl, rfl, rfl, by decide +kernel, rfl, by decide +kernel, by decide +kernel⟩
abbrev s_law_take : Stmt := topS 64
theorem sc_law_take : FnScope ["_law_box_here", "_law_many", "_law_digit", "_law_number"] ["_law_box_here", "_law_many"] (defScope s_law_take) := ⟨rfl, rfl, rfl, by decide +kernel, rfl, by decide +kernel, by decide +kernel⟩

/-! ### kinds -/
def clss : List String := ["int", "bool", "str", "list", "tuple", "dict"]
def kinds : List String := ["NoneType", "bool", "int", "str", "list", "tuple", "dict"]
def isk (a b : String) : Bool := a == b || (a == "bool" && b == "int")
theorem kit_all : ∀ a ∈ kinds, ∀ b ∈ clss, kitB a b = some (isk a b) := by decide +kernel
theorem kitx {K : PySem.W.Frag} {T c : String} (hk : T ∈ kinds) (hc : c ∈ clss) : PySem.W.kitOne K (.type T) (.type c) = some (isk T c) := kit_ty (kit_all T hk c hc)
theorem kity {K : PySem.W.Frag} {T c : String} (b : Bool) (hk : T ∈ kinds) (hc : c ∈ clss) (e : isk T c = b) : PySem.W.kitOne K (.type T) (.type c) = some b := by rw [← e]; exact kitx hk hc
abbrev abc : Str := "abcdefghijklmnopqrstuvwxyz"
def nameOk (s : Str) : Bool := decide (1 ≤ s.length ∧ s.length ≤ 8) && s.cps.toList.all fun c => decide (c ∈ abc.cps.toList)
theorem nameOk_of {s : Str} (h1 : 1 ≤ s.length) (h2 : s.length ≤ 8) : nameOk s = s.cps.toList.all fun c => decide (c ∈ abc.cps.toList) := by
  unfold nameOk
  rw [decide_eq_true (And.intro h1 h2), Bool.true_and]
theorem nameOk_not {s : Str} (h : ¬ (1 ≤ s.length ∧ s.length ≤ 8)) : nameOk s = false := by
  unfold nameOk
  rw [decide_eq_false h, Bool.false_and]
def kindsN : List String := ["NoneType", "bool", "int", "list", "tuple", "dict"]
section
variable {P : Program} {w : World} {K : PySem.W.Frag} {mg : Str → Option Value} {base : Heap}
/-! ### is_integer -/
def spIsInt (K : PySem.W.Frag) : Sp := fun vs H Q _ => ∃ (x : V) (T : String), vs = [x] ∧ TyX K H x (.type T) ∧ T ∈ kinds ∧ Q (.bl (T == "int")) H
theorem ok_is_integer {f : Addr} {fd : FuncData} (F : Fun K "is_integer" "is_integer" s_is_integer f fd) (T : Txt mg) : FnOk P w K mg base CX0 1 f fd ["value"] (spIsInt K) := by
  have nd := sc_is_integer.nd
  refine F.ok sc_is_integer (fun vs H Q E h => ?_) (fun cdv A outer s H vs Q E hr h => ?_)
  · obtain ⟨x, T, rfl, _⟩ := h
    rfl
  · obtain ⟨x, t, rfl, hT, hk, q⟩ := h
    refine ⟨_, (pss_one (ps_ret (pe_and (pe_callB (isiK K) (by rfl) T.m_isinstance PyProof.Rows.boot_isinstance (pa_cons (pv 0) (pa_cons (pe_bltn (v := .ty "int") rfl T.m_int PyProof.Rows.boot_int rfl) pa_nil))) (pe_one (pe_not (pe_callB (isiK K) (by rfl) T.m_isinstance PyProof.Rows.boot_isinstance (pa_cons (pv 0) (pa_cons (pe_bltn (v := .ty "bool") rfl T.m_bool PyProof.Rows.boot_bool rfl) pa_nil)))))))), ?_⟩
    refine ⟨x, rfl, _, _, _, _, _, rfl, .ty _, hT, kitx hk (by decide), _, rfl, ite2 (fun e => ?_) (fun e => ?_)⟩
    · refine ⟨x, rfl, _, _, _, _, _, rfl, .ty _, hT, kitx hk (by decide), _, rfl, ?_⟩
      rw [show (!isk t "bool") = (t == "int") from (show ∀ t ∈ kinds, isk t "int" = true → (!isk t "bool") = (t == "int") by decide) t hk e]
      exact q
    · rw [show (false : Bool) = (t == "int") from (show ∀ t ∈ kinds, ¬ isk t "int" = true → false = (t == "int") by decide) t hk e]
      exact q
/-! ### is_count -/
def spIsCount (K : PySem.W.Frag) : Sp := fun vs H Q _ => (∃ i : Int, vs = [.int i] ∧ Q (.bl (decide (0 ≤ i))) H) ∨ ∃ (x : V) (T : String), vs = [x] ∧ TyX K H x (.type T) ∧ T ∈ kinds ∧ T ≠ "int" ∧ Q (.bl false) H
theorem ok_is_count {f : Addr} {fd : FuncData} (F : Fun K "is_count" "is_count" s_is_count f fd) (T : Txt mg) (cis_integer : Cal P w K mg base 1 "is_integer" (spIsInt K) []) : FnOk P w K mg base CX0 2 f fd ["value"] (spIsCount K) := by
  have nd := sc_is_count.nd
  refine F.ok sc_is_count (fun vs H Q E h => ?_) (fun cdv A outer s H vs Q E hr h => ?_)
  · rcases h with ⟨_, rfl, _⟩ | ⟨_, _, rfl, _⟩ <;> rfl
  · refine ⟨_, (pss_one (ps_ret (pe_and (pe_c cis_integer hr (by decide) rfl (pa_cons (pv 0) pa_nil)) (pe_one (pe_cmpR op_ge (pv 0) pe_int (by rfl)))))), ?_⟩
    rcases h with ⟨i, rfl, q⟩ | ⟨x, t, rfl, hT, hk, hn, q⟩
    · exact ⟨_, rfl, _, "int", rfl, .base (.int i), by decide, _, rfl, ite2 (fun _ => ⟨_, rfl, _, _, rfl, rfl, q⟩) (fun e => absurd rfl e)⟩
    · refine ⟨_, rfl, _, t, rfl, hT, hk, _, rfl, ite2 (fun e => absurd (eq_of_beq e) hn) (fun _ => q)⟩
/-! ### is_name -/
def spIsName (K : PySem.W.Frag) : Sp := fun vs H Q _ => (∃ s : Str, vs = [.str s] ∧ s.length ≤ 1000 ∧ ∀ H', Same H H' → Q (.bl (nameOk s)) H') ∨ ∃ (x : V) (T : String), vs = [x] ∧ TyX K H x (.type T) ∧ T ∈ kindsN ∧ Q (.bl false) H
theorem ok_is_name {f : Addr} {fd : FuncData} (F : Fun K "is_name" "is_name" s_is_name f fd) (T : Txt mg) : FnOk P w K mg base CX0 1 f fd ["value"] (spIsName K) := by
  have nd := sc_is_name.nd
  refine F.ok sc_is_name (fun vs H Q E h => ?_) (fun cdv A outer s H vs Q E hr h => ?_)
  · rcases h with ⟨_, rfl, _⟩ | ⟨_, _, rfl, _⟩ <;> rfl
  · refine ⟨_, (pss_cons (ps_if (PW.pt (pw_or (pt_not (pt_val (pe_callB (isiK K) (by rfl) T.m_isinstance PyProof.Rows.boot_isinstance (pa_cons (pv 0) (pa_cons (pe_bltn (v := .ty "str") rfl T.m_str PyProof.Rows.boot_str rfl) pa_nil))))) (pw_or1 (pt_not (pt_chain op_le op_le pe_int (pe_callB (lenK K) (by rfl) T.m_len PySem.boot_len (pa_cons (pv 0) pa_nil)) (pe_gi rfl T.m_LONGEST_NAME))))))
      (pss_one (ps_ret pe_bl)) pss_nil)
      (pss_one (ps_ret (pe_callB (cr_all rfl) (by rfl) T.m_all PyProof.Rows.boot_all (pa_cons (pe_lc (own := [("letter", 1)]) (g := gName 1) (tt := tYes) rfl nd (pi_str (pv 0)) (blkOk_by (N := ["value", "letter"]) (sc := defScope s_is_name) (by decide +kernel)) (fun _ _ _ _ _ => pg_name (i := 1) nd rfl (Or.inl rfl)) (fun _ _ _ _ _ => pts_nil) (fun _ _ _ _ _ => (pe_cmpR (oIn K) (pv 1) (pe_gs rfl T.m_LETTERS) (by rfl)))) pa_nil))))), ?_⟩
    rcases h with ⟨z, rfl, hz, q⟩ | ⟨x, t, rfl, hT, hk, q⟩
    · refine ⟨_, rfl, _, _, _, _, _, rfl, .ty _, .base (.str z), kity true (by decide) (by decide) rfl, _, rfl, _, rfl, .inr ⟨z, rfl, sz _ (by omega), _, _, rfl, rfl, _, rfl, ite2 (fun e1 => ⟨_, _, rfl, rfl, _, rfl, ite2 (fun e2 => ?_) (fun e2 => ?_)⟩) (fun e1 => ⟨_, rfl, ?_⟩)⟩⟩
      · have e3 : ¬ ((z.length : Int) ≤ 8) := fun hh => by
          rw [decide_eq_true hh] at e2
          exact absurd e2 (by decide)
        have := q H (Same.refl H)
        rw [nameOk_not (by omega)] at this
        exact this
      · have e3 : ((z.length : Int) ≤ 8) := by
          by_cases hh : ((z.length : Int) ≤ 8)
          · exact hh
          · rw [decide_eq_false hh] at e2
            exact absurd rfl e2
        have e4 : (1 : Int) ≤ z.length := of_decide_eq_true e1
        have hn : nameOk z = _ := nameOk_of (s := z) (by omega) (by omega)
        refine ⟨_, rfl, z, rfl, fun D hD => lc_it walk_str (fun i H' => Same H H' ∧ H' D = some (.lst (((z.cps.toList.take i).map fun c => decide (c ∈ abc.cps.toList)).map V.bl))) ⟨same_upd hD, upd_same⟩ (fun _ _ _ _ => trivial) (fun i x H1 H2 hi p y => ?_) (fun H1 p => ?_)⟩
        · obtain ⟨rfl, c, hc, rfl⟩ := y
          refine ⟨rfl, _, rfl, .inl ⟨c, _, rfl, rfl, _, p.2, ?_, ?_, ?_⟩⟩
          · have h9 : z.cps.size = z.length := rfl
            rw [List.length_map, List.length_map, List.length_take, Array.length_toList]
            exact small1000 (by omega)
          · intro b o hb
            rw [upd_ne (ne_of_none hb hD)]
            exact p.1 _ _ hb
          · rw [upd_same, List.take_add_one, show z.cps.toList[i]? = some c by rw [Array.getElem?_toList]; exact hc, List.map_append, List.map_append]
            rfl
        · refine ⟨D, _, rfl, .inl (.inl p.2), ?_⟩
          have hl : z.cps.toList.take z.cps.size = z.cps.toList := List.take_of_length_le (by rw [Array.length_toList]; exact Nat.le_refl _)
          rw [hl, List.all_map]
          have := q H1 p.1
          rw [hn] at this
          exact this
      · have e3 : ¬ ((1 : Int) ≤ z.length) := fun hh => e1 (decide_eq_true hh)
        have := q H (Same.refl H)
        rw [nameOk_not (by omega)] at this
        exact this
    · have hk2 : t ∈ kinds ∧ isk t "str" = false := (show ∀ t ∈ kindsN, t ∈ kinds ∧ isk t "str" = false by decide) t hk
      exact ⟨_, rfl, _, _, _, _, _, rfl, .ty _, hT, kity false hk2.1 (by decide) hk2.2, _, rfl, q⟩

/-! ### the law's numbers -/
theorem ok_cell {f : Addr} {fd : FuncData} (F : Fun K "_law_cell" "_law_cell" s_law_cell f fd) (T : Txt mg) : FnOk P w K mg base CX0 1 f fd ["_law_script", "_law_k"] (Pu.spCell K) := by
  have nd := sc_law_cell.nd
  refine F.ok sc_law_cell (fun vs H Q E h => ?_) (fun cdv A outer s H vs Q E hr h => ?_)
  · obtain ⟨a, ns, k, rfl, _⟩ := h
    rfl
  · obtain ⟨a, ns, k, rfl, hS, q⟩ := h
    refine ⟨_, (pss_cons (ps_if (pt_cmpR op_lt (pv 1) (pe_callB (lenK K) (by rfl) T.m_len PySem.boot_len (pa_cons (pv 0) pa_nil)) (by rfl))
      (pss_one (ps_ret (pe_ix (ixL K) (pv 0) (pv 1) (fun _ _ => rfl)))) pss_nil)
      (pss_one (ps_ret (pe_op oAdd (pe_op op_mul pe_int (pv 1)) pe_int)))), ?_⟩
    refine ⟨_, rfl, _, rfl, .inl ⟨a, _, rfl, .inl hS, _, _, rfl, rfl, _, rfl, ite2 (fun e => ?_) (fun e => ?_)⟩⟩
    · have hk : k < ns.length := by
        have := of_decide_eq_true e
        rw [List.length_map] at this
        omega
      refine ⟨_, rfl, _, rfl, a, _, _, .int ns[k], rfl, rfl, hS, ?_, q _⟩
      exact atI_nat (by rw [List.getElem?_map, List.getElem?_eq_getElem hk]; rfl)
    · exact ⟨_, rfl, _, _, rfl, rfl, .inl ⟨by decide, by decide⟩, .inl ⟨_, _, rfl, rfl, q _⟩⟩
theorem ok_box {f : Addr} {fd : FuncData} (F : Fun K "_law_box" "_law_box" s_law_box f fd) (T : Txt mg) : FnOk P w K mg base CX0 1 f fd ["_law_cell_here"] spBox := by
  have nd := sc_law_box.nd
  refine F.ok sc_law_box (fun vs H Q E h => ?_) (fun cdv A outer s H vs Q E hr h => ?_)
  · obtain ⟨i, rfl, _⟩ := h
    rfl
  · obtain ⟨i, rfl, q⟩ := h
    refine ⟨_, (pss_one (ps_ret (pe_lst (pa_cons (pe_callB (call_max2 rfl) (by rfl) T.m_max PyProof.Rows.boot_max (pa_cons pe_int (pa_cons (pe_op op_sub (pv 0) (pe_op op_pow pe_int pe_int)) pa_nil))) (pa_cons (pe_op op_mod (pv 0) pe_int) (pa_cons pe_int pa_nil)))))), ?_⟩
    refine ⟨_, rfl, _, _, rfl, rfl, ⟨by decide, by decide, by decide⟩, _, _, rfl, rfl, _, _, rfl, _, rfl, _, _, rfl, rfl, (by show (0 : Int) < 2147483629; decide), sz 3, fun p hp => ?_⟩
    refine q p _ hp ⟨_, _, _, upd_same, ?_, ?_, ?_, ?_, ?_⟩ fun a ha => upd_ne ha
    · split <;> omega
    · exact Int.emod_nonneg _ (by decide)
    · have := Int.emod_lt_of_pos i (show (0 : Int) < 2147483629 by decide)
      omega
    · decide
    · decide
theorem ok_take {f : Addr} {fd : FuncData} (F : Fun K "_law_take" "_law_take" s_law_take f fd) (T : Txt mg) : FnOk P w K mg base CX0 1 f fd ["_law_box_here", "_law_many"] spTake := by
  have nd := sc_law_take.nd
  refine F.ok sc_law_take (fun vs H Q E h => ?_) (fun cdv A outer s H vs Q E hr h => ?_)
  · obtain ⟨b, m, n, rfl, _⟩ := h
    rfl
  · obtain ⟨b, m, n, rfl, hm, hm2, hn, ⟨x, y, z, hB, hx, hy, hy2, hz, hzn⟩, q⟩ := h
    refine ⟨_, (pss_cons (ps_if (pt_cmpR op_gt (pe_ix (ixL K) (pv 0) pe_int (fun _ _ => rfl)) pe_int (by rfl))
      (pss_cons (ps_set (i := 2) nd rfl (Or.inl rfl) (pe_op op_mod (pe_ix (ixL K) (pv 0) pe_int (fun _ _ => rfl)) (pv 1)))
      (pss_cons (ps_asg (pe_op op_fdivW (pe_ix (ixL K) (pv 0) pe_int (fun _ _ => rfl)) (pv 1)) (pg_sub (pv 0) pe_int set_list))
      (pss_one (ps_ret (pv 2))))) pss_nil)
      (pss_cons (ps_asg (pe_op oAdd (pe_ix (ixL K) (pv 0) pe_int (fun _ _ => rfl)) pe_int) (pg_sub (pv 0) pe_int set_list))
      (pss_cons (ps_set (i := 3) nd rfl (Or.inl rfl) (pe_op op_mod (pe_op op_pow (pe_op oAdd (pe_op oAdd (pe_ix (ixL K) (pv 0) pe_int (fun _ _ => rfl)) (pe_op op_mul pe_int (pe_ix (ixL K) (pv 0) pe_int (fun _ _ => rfl)))) pe_int) pe_int) pe_int))
      (pss_cons (ps_set (i := 3) nd rfl (Or.inl rfl) (pe_op op_mod (pe_op op_pow (pe_op oAdd (pv 3) (pe_op op_mul pe_int (pe_ix (ixL K) (pv 0) pe_int (fun _ _ => rfl)))) pe_int) pe_int))
      (pss_one (ps_ret (pe_op op_mod (pe_op op_fdiv (pv 3) pe_int) (pv 1)))))))), ?_⟩
    refine ⟨_, rfl, _, _, _, _, rfl, rfl, .inl (.inl hB), rfl, _, _, rfl, rfl, _, rfl, ite2 (fun e => ?_) (fun e => ?_)⟩
    · refine ⟨_, rfl, _, _, _, _, rfl, rfl, .inl (.inl hB), rfl, _, rfl, _, _, rfl, rfl, hm, ?_⟩
      refine ⟨_, rfl, _, _, _, _, rfl, rfl, .inl (.inl hB), rfl, _, rfl, _, _, rfl, rfl, (wide_div hm (show m.natAbs < 2 ^ 140 by omega) (by decide) (by decide)), _, rfl, _, _, _, _, rfl, rfl, hB, rfl, ?_⟩
      refine ⟨_, rfl, q _ _ (Int.emod_nonneg _ (by omega)) (Int.emod_lt_of_pos _ hm) ⟨_, _, _, upd_same, Int.ediv_nonneg hx (by omega), hy, hy2, hz, by omega⟩ Ext.at⟩
    · have hz2 : (0 : Int) ≤ z + 1 ∧ z + 1 ≤ 1000001 := by omega
      refine ⟨_, rfl, _, _, _, _, rfl, rfl, .inl (.inl hB), rfl, .inl ⟨_, _, rfl, rfl, _, rfl, _, _, _, _, rfl, rfl, hB, rfl, ?_⟩⟩
      have hB1 : (upd H b (.lst ([V.int x, V.int y, V.int z].set 2 (.int (z + 1))))) b = some (.lst [.int x, .int y, .int (z + 1)]) := upd_same
      have n1 : (0 : Int) ≤ (y + 7919 * (z + 1) + 524) := by omega
      have n2 : (y + 7919 * (z + 1) + 524) < 18446744073709551616 := by omega
      refine ⟨_, rfl, _, _, _, _, rfl, rfl, .inl (.inl hB1), rfl, _, rfl, _, _, _, _, rfl, rfl, .inl (.inl hB1), rfl, _, _, rfl, rfl, .inl ⟨by decide, by decide⟩, .inl ⟨_, _, rfl, rfl, .inl ⟨_, _, rfl, rfl,
        _, _, rfl, rfl, ⟨by decide, by decide, ?_⟩, _, _, rfl, rfl, (by show (0 : Int) < 2147483647; decide), ?_⟩⟩⟩
      · show (y + 7919 * (z + 1) + 524).natAbs < 2 ^ 64
        omega
      · have p0 : (0 : Int) ≤ ((y + 7919 * (z + 1) + 524) ^ (5 : Int).toNat) % 2147483647 := Int.emod_nonneg _ (by decide)
        have p1 : ((y + 7919 * (z + 1) + 524) ^ (5 : Int).toNat) % 2147483647 < 2147483647 := Int.emod_lt_of_pos _ (by decide)
        have e1 : ∀ g : Int, 0 ≤ g → g < 2147483647 → (g + 104729 * (z + 1)).natAbs < 2 ^ 64 := by
          intro g h0 h1
          omega
        refine ⟨_, rfl, _, rfl, _, _, _, _, rfl, rfl, .inl (.inl hB1), rfl, _, _, rfl, rfl, .inl ⟨by decide, by decide⟩, .inl ⟨_, _, rfl, rfl, _, _, rfl, rfl, ⟨by decide, by decide, e1 _ p0 p1⟩, _, _, rfl, rfl, (by show (0 : Int) < 2147483587; decide), ?_⟩⟩
        refine ⟨_, rfl, _, _, rfl, rfl, ⟨by decide, by decide⟩, _, rfl, _, _, rfl, rfl, hm, ?_⟩
        exact q _ _ (Int.emod_nonneg _ (by omega)) (Int.emod_lt_of_pos _ hm) ⟨_, _, _, hB1, hx, hy, hy2, hz2.1, by omega⟩ Ext.at

end
end Pk

set_option Elab.async false
set_option linter.all false
set_option maxRecDepth 100000
set_option maxHeartbeats 4000000
namespace Pk
open PySem PySem.Spec PyProof.Rows L2 Pu
/-! ### plans as data -/
structure PlanD where
  evs : List Str
  ties : List (Str × Str × Int)
  caps : List (Str × Int)
structure EvsOk (es : List Str) : Prop where
  lo : 1 ≤ es.length
  hi : es.length ≤ 8
  nm : ∀ e ∈ es, nameOk e = true
  nd : es.Nodup
structure PlanOk (d : PlanD) : Prop where
  evs : EvsOk d.evs
  tl : d.ties.length ≤ 60
  tin : ∀ t ∈ d.ties, t.1 ∈ d.evs ∧ t.2.1 ∈ d.evs ∧ 0 ≤ t.2.2
  cin : ∀ c ∈ d.caps, c.1 ∈ d.evs ∧ 0 ≤ c.2
  cnd : (d.caps.map (·.1)).Nodup
  up : ∃ ρ : Str → Nat, ∀ t ∈ d.ties, t.2.2 = 0 → ρ t.1 < ρ t.2.1
/-- the row of a tie -/
abbrev rowV (t : Str × Str × Int) : List V := [.str t.1, .str t.2.1, .int t.2.2]
def TiesAt (H : Hp) (ts : List Addr) (ties : List (Str × Str × Int)) : Prop := Paired (fun a t => H a = some (.tup (rowV t))) ts ties
def capsV (cs : List (Str × Int)) : List (Key × V) := cs.map fun c => (.inr c.1, .int c.2)
theorem TiesAt.same {H H' : Hp} {ts : List Addr} {ties : List (Str × Str × Int)} (h : TiesAt H ts ties) (s : Same H H') : TiesAt H' ts ties := by
  unfold TiesAt at *
  induction h with
  | nil => exact .nil
  | cons r _ ih => exact .cons (s _ _ r) ih
theorem TiesAt.get {H : Hp} {ts : List Addr} {ties : List (Str × Str × Int)} (h : TiesAt H ts ties) : ∀ {i : Nat} {x : V}, (ts.map V.ref)[i]? = some x → ∃ a t, x = .ref a ∧ t ∈ ties ∧ ties[i]? = some t ∧ H a = some (.tup (rowV t)) := by
  unfold TiesAt at h
  induction h with
  | nil => intro i x e; simp at e
  | @cons a t as bs r _ ih =>
    intro i x e
    cases i with
    | zero =>
      have e : some (V.ref a) = some x := e
      cases e
      exact ⟨a, t, rfl, List.mem_cons_self .., rfl, r⟩
    | succ i =>
      obtain ⟨a', t', h1, h2, h3, h4⟩ := ih (i := i) (x := x) e
      exact ⟨a', t', h1, List.mem_cons_of_mem _ h2, h3, h4⟩
theorem TiesAt.length {H : Hp} {ts : List Addr} {ties : List (Str × Str × Int)} (h : TiesAt H ts ties) : ts.length = ties.length := Paired.length h
theorem flat_strs (es : List Str) : (es.map V.str).all flatV = true := by
  rw [List.all_map, List.all_eq_true]
  intro _ _
  rfl
theorem inV_strs (e : Str) (es : List Str) : inV (.str e) (es.map V.str) = decide (e ∈ es) := by
  unfold inV
  rw [List.any_map, Bool.eq_iff_iff, List.any_eq_true, decide_eq_true_iff]
  constructor
  · rintro ⟨y, hy, h⟩
    have h : (y == e) = true := h
    rw [beq_iff_eq] at h
    exact h ▸ hy
  · intro h
    exact ⟨e, h, (show (e == e) = true from beq_self_eq_true _)⟩
abbrev s_need_events : Stmt := topS 32
theorem sc_need_events : FnScope ["events", "index", "event"] ["events"] (defScope s_need_events) := ⟨rfl, rfl, rfl, by decide +kernel, rfl, by decide +kernel, by decide +kernel⟩
abbrev s_need_event : Stmt := topS 33
theorem sc_need_event : FnScope ["events", "event"] ["events", "event"] (defScope s_need_event) := ⟨rfl, rfl, rfl, by decide +kernel, rfl, by decide +kernel, by decide +kernel⟩
abbrev s_need_tie : Stmt := topS 34
theorem sc_need_tie : FnScope ["events", "tie", "earlier", "later", "lag"] ["events", "tie"] (defScope s_need_tie) := ⟨rfl, rfl, rfl, by decide +kernel, rfl, by decide +kernel, by decide +kernel⟩
abbrev s_need_ties : Stmt := topS 35
theorem sc_need_ties : FnScope ["events", "ties", "tie"] ["events", "ties"] (defScope s_need_ties) := ⟨rfl, rfl, rfl, by decide +kernel, rfl, by decide +kernel, by decide +kernel⟩
abbrev s_need_limits : Stmt := topS 36
theorem sc_need_limits : FnScope ["events", "limits", "event"] ["events", "limits"] (defScope s_need_limits) := ⟨rfl, rfl, rfl, by decide +kernel, rfl, by decide +kernel, by decide +kernel⟩
abbrev s_ringed : Stmt := topS 37
theorem sc_ringed : FnScope ["events", "ties", "reached", "middle", "first", "before", "last", "beyond", "earlier", "later", "lag", "event"] ["events", "ties"] (defScope s_ringed) := ⟨rfl, rfl, rfl, by decide +kernel, rfl, by decide +kernel, by decide +kernel⟩

section
variable {P : Program} {w : World} {K : PySem.W.Frag} {mg : Str → Option Value} {base : Heap}
/-! ### events that are right -/
theorem ty_sql {H : Hp} {a : Addr} {xs : List V} (h : SqL K H a xs) : TyX K H (.ref a) (.type "list") := by
  rcases h with (h | ⟨o, h⟩) | ⟨o, its, n, h, hc, _⟩
  · exact .base (.lst h)
  · exact .base (.frz h)
  · exact .kList h hc
theorem ty_sqt {H : Hp} {a : Addr} {xs : List V} (h : SqT K H a xs) : TyX K H (.ref a) (.type "tuple") := by
  rcases h with (h | ⟨o, h⟩) | ⟨o, its, n, h, hc, _⟩
  · exact .base (.tup h)
  · exact .fTuple h
  · exact .kTuple h hc
theorem kit2 {t c d : String} (b : Bool) (ht : t ∈ kinds) (hc : c ∈ clss) (hd : d ∈ clss) (e : (isk t c || isk t d) = b) : PySem.W.kitAny K (.type t) [.type c, .type d] = some b := by
  subst e
  unfold PySem.W.kitAny
  rw [kitx ht hc]
  cases h1 : isk t c with
  | true => rfl
  | false =>
    show PySem.W.kitAny K (.type t) [.type d] = _
    unfold PySem.W.kitAny
    rw [kitx ht hd]
    cases h2 : isk t d with
    | true => rfl
    | false => rfl
/-- a list or a tuple: its kind -/
theorem ty_sq {H : Hp} {a : Addr} {xs : List V} (h : Sq K H a xs) : ∃ t : String, TyX K H (.ref a) (.type t) ∧ PySem.W.kitAny K (.type t) [.type "list", .type "tuple"] = some true := by
  rcases h with h | h
  · exact ⟨"list", ty_sql h, kit2 true (by decide) (by decide) (by decide) (by decide)⟩
  · exact ⟨"tuple", ty_sqt h, kit2 true (by decide) (by decide) (by decide) (by decide)⟩
theorem cut_to (es : List Str) (i : Nat) (hi : i ≤ es.length) : cutV (es.map V.str) none (some (i : Int)) = (es.take i).map V.str := by
  unfold cutV
  rw [HT.sIx_none, HT.sIx_nat, List.length_map, Nat.min_eq_left hi, List.drop_zero, Nat.sub_zero, List.map_take]
theorem nameOk_len {s : Str} (h : nameOk s = true) : 1 ≤ s.length ∧ s.length ≤ 8 := by
  by_cases hh : 1 ≤ s.length ∧ s.length ≤ 8
  · exact hh
  · rw [nameOk_not hh] at h
    cases h
def spEvents (K : PySem.W.Frag) : Sp := fun vs H Q _ => ∃ (a : Addr) (es : List Str), vs = [.ref a] ∧ Sq K H a (es.map V.str) ∧ EvsOk es ∧ ∀ H', Same H H' → Q .non H'
theorem ok_need_events {f : Addr} {fd : FuncData} (F : Fun K "need_events" "need_events" s_need_events f fd) (T : Txt mg) (cis_name : Cal P w K mg base 1 "is_name" (spIsName K) []) : FnOk P w K mg base CX0 2 f fd ["events"] (spEvents K) := by
  have nd := sc_need_events.nd
  refine F.ok sc_need_events (fun vs H Q E h => ?_) (fun cdv A outer s H vs Q E hr h => ?_)
  · obtain ⟨_, _, rfl, _⟩ := h
    rfl
  · obtain ⟨a, es, rfl, hq, ho, q⟩ := h
    refine ⟨_, (pss_cons (ps_if (PW.pt (pw_or (pt_not (pt_val (pe_callB (isiTK K) (by rfl) T.m_isinstance PyProof.Rows.boot_isinstance (pa_cons (pv 0) (pa_cons (pe_tup (pa_cons (pe_bltn (v := .ty "list") rfl T.m_list PyProof.Rows.boot_list rfl) (pa_cons (pe_bltn (v := .ty "tuple") rfl T.m_tuple PyProof.Rows.boot_tuple rfl) pa_nil))) pa_nil))))) (pw_or1 (pt_not (pt_chain op_le op_le pe_int (pe_callB (lenK K) (by rfl) T.m_len PySem.boot_len (pa_cons (pv 0) pa_nil)) (pe_gi rfl T.m_MOST_EVENTS))))))
      (pss_one ps_no) pss_nil)
      (pss_one (ps_for PassesOwn.never rfl (pi_enumS K rfl T.m_enumerate (pa_cons (pv 0) pa_nil)) (pg_tup rfl (pgs_cons (pg_name (i := 1) nd rfl (Or.inl rfl)) (pgs_cons (pg_name (i := 2) nd rfl (Or.inl rfl)) pgs_nil)))
      (pss_cons (ps_if (pt_not (pt_val (pe_c cis_name hr (by decide) rfl (pa_cons (pv 2) pa_nil))))
      (pss_one ps_no) pss_nil)
      (pss_one (ps_if (pt_cmpR (oIn K) (pv 2) (pe_slice (slSeq K) (pv 0) po_none (po_some (pv 1))) (by rfl))
      (pss_one ps_no) pss_nil)))))), ?_⟩
    refine ⟨_, rfl, sz 2, fun T0 n0 => ?_⟩
    have s0 : Same H (upd H T0 (.tup [.ty "list", .ty "tuple"])) := same_upd n0
    have hT : (upd H T0 (.tup [.ty "list", .ty "tuple"])) T0 = some (.tup [.ty "list", .ty "tuple"]) := upd_same
    revert s0 hT
    generalize upd H T0 (.tup [.ty "list", .ty "tuple"]) = H0
    intro s0 hT
    have hq0 := sq_same hq s0
    obtain ⟨t, hty, hk⟩ := ty_sq hq0
    have l1 := ho.lo
    have l2 := ho.hi
    refine ⟨_, T0, _, _, _, true, rfl, hT, .cons (.ty _) (.cons (.ty _) .nil), hty, hk, _, rfl, _, rfl, .inl ⟨a, _, rfl, hq0, _, _, rfl, rfl, _, rfl, ite2 (fun e1 => ⟨_, _, rfl, rfl, _, rfl, ite2 (fun e2 => ?_) (fun e2 => ?_)⟩) (fun e1 => ?_)⟩⟩
    · rw [List.length_map] at e2
      have e3 : ((es.length : Int) ≤ 8) := by omega
      rw [decide_eq_true e3] at e2
      exact absurd e2 (by decide)
    · refine for_enumS (fun i σ H' => Same H0 H' ∧ ∃ v1 v2, σ = [some (.ref a), v1, v2]) (fun Q hQ => ⟨_, rfl, hQ⟩) hq0 ⟨Same.refl _, _, _, rfl⟩ (fun _ _ _ _ p => p.1) (fun i x T1 σ H1 hx p n1 => ?_) (fun σ H1 p => q _ (Same.trans s0 p.1))
      obtain ⟨s1, v1, v2, rfl⟩ := p
      have hi : i < es.length := by
        rw [← List.length_map (f := V.str)]
        exact (List.getElem?_eq_some_iff.mp hx).1
      have hxe : x = .str es[i] := by
        rw [List.getElem?_map, List.getElem?_eq_getElem hi] at hx
        cases hx
        rfl
      subst hxe
      have s2 : Same H0 (upd H1 T1 (.tup [.int (i : Nat), .str es[i]])) := Same.trans s1 (same_upd n1)
      have hn := ho.nm es[i] (List.getElem_mem hi)
      refine ⟨T1, _, rfl, .inl (.inl upd_same), rfl, _, _, rfl, _, _, rfl, rfl, ?_⟩
      refine ⟨_, rfl, .inl ⟨es[i], rfl, by have := nameOk_len hn; omega, fun H2 s3 => ⟨_, rfl, ite2 (fun e => ?_) (fun _ => ?_)⟩⟩⟩
      · rw [hn] at e
        exact absurd e (by decide)
      have s4 := Same.trans s2 s3
      have fin : ∀ (y : V) (p : Addr), (Sq K (upd H2 p (.lst ((es.take i).map V.str))) p ((es.take i).map V.str)) := fun _ p => .inl (.inl (.inl upd_same))
      have hno : inV (.str es[i]) ((es.take i).map V.str) = false := by
        rw [inV_strs]
        refine decide_eq_false fun hm => ?_
        obtain ⟨j, hj, e⟩ := List.getElem_of_mem hm
        rw [List.getElem_take] at e
        have hj2 : j < i := by
          rw [List.length_take] at hj
          omega
        have := (List.getElem_inj (h₀ := by omega) (h₁ := hi) ho.nd).mp e
        omega
      refine ⟨_, rfl, _, rfl, ?_⟩
      have key : ∀ (H3 : Hp) (p : Addr), Same H2 H3 → Sq K H3 p (cutV (es.map V.str) none (some (i : Int))) → rIn K false (.str es[i]) (.ref p) H3 fun x H' => ∃ k, x = .bl k ∧ (if k = true then False else Same H0 H' ∧ ∃ v1 v2, [some (V.ref a), some (V.int (i : Nat)), some (V.str es[i])] = [some (.ref a), v1, v2]) := by
        intro H3 p s5 hs
        rw [cut_to es i (by omega)] at hs
        refine ⟨p, _, rfl, hs, rfl, flat_strs _, _, rfl, ?_⟩
        rw [hno]
        exact ⟨Same.trans s4 s5, _, _, rfl⟩
      rcases sq_same hq0 s4 with hl | ht
      · exact ⟨_, rfl, _, rfl, .inl ⟨a, _, rfl, hl, fun p np => .inr (key _ p (same_upd np) (.inl (.inl (.inl upd_same))))⟩⟩
      · refine ⟨_, rfl, _, rfl, .inr ⟨a, _, rfl, ht, ?_, fun p np => .inr (key _ p (same_upd np) (.inr (.inl (.inl upd_same))))⟩⟩
        rintro ⟨_, h2⟩
        rw [HT.sIx_nat, List.length_map] at h2
        omega
    · rw [List.length_map] at e1
      exact absurd (decide_eq_true (by omega)) e1
/-! ### ties that are right -/
def spEvent (K : PySem.W.Frag) : Sp := fun vs H Q _ => ∃ (a : Addr) (es : List Str) (e : Str), vs = [.ref a, .str e] ∧ Sq K H a (es.map V.str) ∧ e ∈ es ∧ Q .non H
theorem ok_need_event {f : Addr} {fd : FuncData} (F : Fun K "need_event" "need_event" s_need_event f fd) (T : Txt mg) : FnOk P w K mg base CX0 1 f fd ["events", "event"] (spEvent K) := by
  have nd := sc_need_event.nd
  refine F.ok sc_need_event (fun vs H Q E h => ?_) (fun cdv A outer s H vs Q E hr h => ?_)
  · obtain ⟨_, _, _, rfl, _⟩ := h
    rfl
  · obtain ⟨a, es, e, rfl, hq, he, q⟩ := h
    refine ⟨_, (pss_one (ps_if (pt_cmpR (oNotIn K) (pv 1) (pv 0) (by rfl))
      (pss_one ps_no) pss_nil)), ?_⟩
    refine ⟨_, rfl, _, rfl, .inr ⟨a, _, rfl, hq, rfl, flat_strs _, _, rfl, ?_⟩⟩
    rw [inV_strs, decide_eq_true he]
    exact q
def spTie (K : PySem.W.Frag) : Sp := fun vs H Q _ => ∃ (a b : Addr) (es : List Str) (t : Str × Str × Int), vs = [.ref a, .ref b] ∧ Sq K H a (es.map V.str) ∧ H b = some (.tup (rowV t)) ∧ t.1 ∈ es ∧ t.2.1 ∈ es ∧ 0 ≤ t.2.2 ∧ Q .non H
theorem ok_need_tie {f : Addr} {fd : FuncData} (F : Fun K "need_tie" "need_tie" s_need_tie f fd) (T : Txt mg) (cneed_event : Cal P w K mg base 1 "need_event" (spEvent K) []) (cis_count : Cal P w K mg base 2 "is_count" (spIsCount K) []) : FnOk P w K mg base CX0 3 f fd ["events", "tie"] (spTie K) := by
  have nd := sc_need_tie.nd
  refine F.ok sc_need_tie (fun vs H Q E h => ?_) (fun cdv A outer s H vs Q E hr h => ?_)
  · obtain ⟨_, _, _, _, rfl, _⟩ := h
    rfl
  · obtain ⟨a, b, es, ⟨x, y, n⟩, rfl, hq, hb, hx, hy, hn, q⟩ := h
    have hb1 : SqT K H b [.str x, .str y, .int n] := .inl (.inl hb)
    refine ⟨_, (pss_cons (ps_if (PW.pt (pw_or (pt_not (pt_val (pe_callB (isiK K) (by rfl) T.m_isinstance PyProof.Rows.boot_isinstance (pa_cons (pv 1) (pa_cons (pe_bltn (v := .ty "tuple") rfl T.m_tuple PyProof.Rows.boot_tuple rfl) pa_nil))))) (pw_or1 (pt_cmpR op_ne (pe_callB (lenK K) (by rfl) T.m_len PySem.boot_len (pa_cons (pv 1) pa_nil)) pe_int (by rfl)))))
      (pss_one ps_no) pss_nil)
      (pss_cons (ps_asg (pv 1) (pg_tup rfl (pgs_cons (pg_name (i := 2) nd rfl (Or.inl rfl)) (pgs_cons (pg_name (i := 3) nd rfl (Or.inl rfl)) (pgs_cons (pg_name (i := 4) nd rfl (Or.inl rfl)) pgs_nil)))))
      (pss_cons (ps_expr (pe_c cneed_event hr (by decide) rfl (pa_cons (pv 0) (pa_cons (pv 2) pa_nil))))
      (pss_cons (ps_expr (pe_c cneed_event hr (by decide) rfl (pa_cons (pv 0) (pa_cons (pv 3) pa_nil))))
      (pss_one (ps_if (pt_not (pt_val (pe_c cis_count hr (by decide) rfl (pa_cons (pv 4) pa_nil))))
      (pss_one ps_no) pss_nil)))))), ?_⟩
    refine ⟨_, rfl, _, _, _, _, _, rfl, .ty _, ty_sqt hb1, kity true (by decide) (by decide) rfl, _, rfl, _, rfl, .inl ⟨b, _, rfl, .inr hb1, rfl, _, rfl, ?_⟩⟩
    refine ⟨_, rfl, b, _, rfl, hb1, rfl, _, _, rfl, _, _, rfl, _, _, rfl, rfl, ?_⟩
    refine ⟨_, rfl, _, rfl, a, es, x, rfl, hq, hx, ?_⟩
    refine ⟨_, rfl, _, rfl, a, es, y, rfl, hq, hy, ?_⟩
    refine ⟨_, rfl, .inl ⟨n, rfl, _, rfl, ?_⟩⟩
    rw [decide_eq_true hn]
    exact q
def spTies (K : PySem.W.Frag) : Sp := fun vs H Q _ => ∃ (a b : Addr) (es : List Str) (ts : List Addr) (ties : List (Str × Str × Int)), vs = [.ref a, .ref b] ∧ Sq K H a (es.map V.str) ∧ Sq K H b (ts.map V.ref) ∧ TiesAt H ts ties ∧ ties.length ≤ 60 ∧
  (∀ t ∈ ties, t.1 ∈ es ∧ t.2.1 ∈ es ∧ 0 ≤ t.2.2) ∧ ∀ H', Same H H' → Q .non H'
theorem ok_need_ties {f : Addr} {fd : FuncData} (F : Fun K "need_ties" "need_ties" s_need_ties f fd) (T : Txt mg) (cneed_tie : Cal P w K mg base 3 "need_tie" (spTie K) []) : FnOk P w K mg base CX0 4 f fd ["events", "ties"] (spTies K) := by
  have nd := sc_need_ties.nd
  refine F.ok sc_need_ties (fun vs H Q E h => ?_) (fun cdv A outer s H vs Q E hr h => ?_)
  · obtain ⟨_, _, _, _, _, rfl, _⟩ := h
    rfl
  · obtain ⟨a, b, es, ts, ties, rfl, hq, hb, ht, hl, hin, q⟩ := h
    refine ⟨_, (pss_cons (ps_if (PW.pt (pw_or (pt_not (pt_val (pe_callB (isiTK K) (by rfl) T.m_isinstance PyProof.Rows.boot_isinstance (pa_cons (pv 1) (pa_cons (pe_tup (pa_cons (pe_bltn (v := .ty "list") rfl T.m_list PyProof.Rows.boot_list rfl) (pa_cons (pe_bltn (v := .ty "tuple") rfl T.m_tuple PyProof.Rows.boot_tuple rfl) pa_nil))) pa_nil))))) (pw_or1 (pt_cmpR op_gt (pe_callB (lenK K) (by rfl) T.m_len PySem.boot_len (pa_cons (pv 1) pa_nil)) (pe_gi rfl T.m_MOST_TIES) (by rfl)))))
      (pss_one ps_no) pss_nil)
      (pss_one (ps_for PassesOwn.never rfl (pi_seq K (pv 1)) (pg_name (i := 2) nd rfl (Or.inl rfl))
      (pss_one (ps_expr (pe_c cneed_tie hr (by decide) rfl (pa_cons (pv 0) (pa_cons (pv 2) pa_nil)))))))), ?_⟩
    refine ⟨_, rfl, sz 2, fun T0 n0 => ?_⟩
    have s0 : Same H (upd H T0 (.tup [.ty "list", .ty "tuple"])) := same_upd n0
    have hT : (upd H T0 (.tup [.ty "list", .ty "tuple"])) T0 = some (.tup [.ty "list", .ty "tuple"]) := upd_same
    revert s0 hT
    generalize upd H T0 (.tup [.ty "list", .ty "tuple"]) = H0
    intro s0 hT
    obtain ⟨t, hty, hk⟩ := ty_sq (sq_same hb s0)
    refine ⟨_, T0, _, _, _, true, rfl, hT, .cons (.ty _) (.cons (.ty _) .nil), hty, hk, _, rfl, _, rfl, .inl ⟨b, _, rfl, sq_same hb s0, _, _, rfl, rfl, _, rfl, ite2 (fun e1 => ?_) (fun e1 => ?_)⟩⟩
    · have e2 := of_decide_eq_true e1
      rw [List.length_map, ht.length] at e2
      omega
    · refine for_seq (fun i σ H' => Same H0 H' ∧ ∃ v1, σ = [some (.ref a), some (.ref b), v1]) (fun Q hQ => ⟨_, rfl, hQ⟩) (sq_same hb s0) ⟨Same.refl _, _, rfl⟩ (fun _ _ _ _ p => p.1) (fun i x σ H1 hx p => ?_) (fun σ H1 p => q _ (Same.trans s0 p.1))
      obtain ⟨s1, v1, rfl⟩ := p
      have s2 := Same.trans s0 s1
      obtain ⟨c, t, rfl, hm, _, hc⟩ := (ht.same s2).get hx
      obtain ⟨i1, i2, i3⟩ := hin t hm
      exact ⟨_, rfl, _, rfl, a, c, es, t, rfl, sq_same hq s2, hc, i1, i2, i3, s1, _, rfl⟩
/-! ### limits that are right -/
def LimsAt (H : Hp) (l : V) (cs : List (Str × Int)) : Prop := (l = .non ∧ cs = []) ∨ ∃ c, l = .ref c ∧ H c = some (.dK (capsV cs))
theorem capsV_get {cs : List (Str × Int)} {i : Nat} {k : Key} {v : V} (h : (capsV cs)[i]? = some (k, v)) : ∃ c, cs[i]? = some c ∧ c ∈ cs ∧ k = .inr c.1 ∧ v = .int c.2 := by
  unfold capsV at h
  rw [List.getElem?_map] at h
  cases e : cs[i]? with
  | none => rw [e] at h; cases h
  | some c =>
    rw [e] at h
    cases h
    exact ⟨c, rfl, List.mem_of_getElem? e, rfl, rfl⟩
theorem valV_mem {cs : List (Str × Int)} (h : (cs.map (·.1)).Nodup) {c : Str × Int} (hc : c ∈ cs) : valV (capsV cs) (.inr c.1) = some (.int c.2) := by
  induction cs with
  | nil => cases hc
  | cons d r ih =>
    rw [List.map_cons, List.nodup_cons] at h
    show Option.map (·.2) (List.find? _ ((.inr d.1, .int d.2) :: capsV r)) = _
    rw [List.find?_cons]
    rcases List.mem_cons.mp hc with e | e
    · subst e
      rw [decide_eq_true rfl]
      rfl
    · have hne : d.1 ≠ c.1 := fun q => h.1 (q ▸ List.mem_map_of_mem e)
      rw [decide_eq_false (fun q : (Sum.inr d.1 : Key) = .inr c.1 => hne (Sum.inr.inj q))]
      exact ih h.2 e
theorem sq_lock {K : PySem.W.Frag} {H : Hp} {a c : Addr} {xs : List V} {kvs : List (Key × V)} {o : HO} (h : Sq K H a xs) (hc : H c = some (.dK kvs)) : Sq K (upd H c o) a xs := by
  rcases h with ((h | ⟨u, h⟩) | h) | ((h | ⟨u, h⟩) | h)
  · exact .inl (.inl (.inl (by rw [upd_ne (ne_of h hc (fun z => nomatch z))]; exact h)))
  · exact .inl (.inl (.inr ⟨u, by rw [upd_ne (ne_of h hc (fun z => nomatch z))]; exact h⟩))
  · exact .inl (.inr h)
  · exact .inr (.inl (.inl (by rw [upd_ne (ne_of h hc (fun z => nomatch z))]; exact h)))
  · exact .inr (.inl (.inr ⟨u, by rw [upd_ne (ne_of h hc (fun z => nomatch z))]; exact h⟩))
  · exact .inr (.inr h)
def spLimits (K : PySem.W.Frag) : Sp := fun vs H Q _ => ∃ (a : Addr) (es : List Str) (l : V) (cs : List (Str × Int)), vs = [.ref a, l] ∧ Sq K H a (es.map V.str) ∧ LimsAt H l cs ∧ (cs.map (·.1)).Nodup ∧ (∀ c ∈ cs, c.1 ∈ es ∧ 0 ≤ c.2) ∧ ∀ H', Same H H' → Q .non H'
theorem ok_need_limits {f : Addr} {fd : FuncData} (F : Fun K "need_limits" "need_limits" s_need_limits f fd) (T : Txt mg) (cis_count : Cal P w K mg base 2 "is_count" (spIsCount K) []) : FnOk P w K mg base CX0 3 f fd ["events", "limits"] (spLimits K) := by
  have nd := sc_need_limits.nd
  refine F.ok sc_need_limits (fun vs H Q E h => ?_) (fun cdv A outer s H vs Q E hr h => ?_)
  · obtain ⟨_, _, _, _, rfl, _⟩ := h
    rfl
  · obtain ⟨a, es, l, cs, rfl, hq, hl, hnd, hin, q⟩ := h
    have hu : (A.deeper (envOfC "need_limits" (defScope s_need_limits) s.heap.objs.size f cdv)).units + 1 < cLine := by
      have := hr.units
      omega
    refine ⟨_, (pss_cons (ps_if (pt_cmpR op_isN (pv 1) pe_non (by rfl))
      (pss_one ps_retN) pss_nil)
      (pss_cons (ps_if (pt_not (pt_val (pe_callB (isiK K) (by rfl) T.m_isinstance PyProof.Rows.boot_isinstance (pa_cons (pv 1) (pa_cons (pe_bltn (v := .ty "dict") rfl T.m_dict PyProof.Rows.boot_dict rfl) pa_nil)))))
      (pss_one ps_no) pss_nil)
      (pss_one (ps_lock (ps_for PassesOwn.never rfl (pi_keys (pv 1)) (pg_name (i := 2) nd rfl (Or.inl rfl))
      (pss_one (ps_if (PW.pt (pw_or (pt_cmpR (oNotIn K) (pv 2) (pv 0) (by rfl)) (pw_or1 (pt_not (pt_val (pe_c cis_count hr (by decide) rfl (pa_cons (pe_dget hu (pv 1) (pv 2) (fun _ _ => rfl)) pa_nil)))))))
      (pss_one ps_no) pss_nil))))))), ?_⟩
    rcases hl with ⟨rfl, rfl⟩ | ⟨c, rfl, hc⟩
    · exact ⟨_, rfl, rfl, _, rfl, q _ (Same.refl _)⟩
    refine ⟨_, rfl, rfl, _, rfl, ite2 (fun e => nomatch of_decide_eq_true e) (fun _ => ?_)⟩
    refine ⟨_, rfl, _, _, _, _, _, rfl, .ty _, .base (.dK hc), kity true (by decide) (by decide) rfl, _, rfl, ?_⟩
    refine ⟨c, _, hc, trivial, fun od => ?_⟩
    have hq2 : Sq K (upd H c (.frz od (.dK (capsV cs)))) a (es.map V.str) := sq_lock hq hc
    have hc2 : (upd H c (.frz od (.dK (capsV cs)))) c = some (.frz od (.dK (capsV cs))) := upd_same
    have back : Same H (upd (upd H c (.frz od (.dK (capsV cs)))) c (.dK (capsV cs))) := fun b o hb => by
      by_cases e : b = c
      · subst e
        rw [hc] at hb
        cases hb
        exact upd_same
      · rw [upd_ne e, upd_ne e]
        exact hb
    refine ⟨_, rfl, c, od, rfl, .inl ⟨capsV cs, hc2, for_it walk_keys (fun i σ H' => H' = upd H c (.frz od (.dK (capsV cs))) ∧ ∃ v, σ = [some (.ref a), some (.ref c), v]) ⟨rfl, _, rfl⟩ (fun i σ H' _ p => p.1 ▸ hc2) (fun i x σ H1 H2 hi p y => ?_) (fun σ H1 p => ?_)⟩⟩
    · obtain ⟨rfl, v, rfl⟩ := p
      obtain ⟨rfl, k, u, hk, rfl⟩ := y
      obtain ⟨d, _, hd, rfl, rfl⟩ := capsV_get hk
      obtain ⟨i1, i2⟩ := hin d hd
      refine ⟨_, rfl, _, rfl, .inr ⟨a, _, rfl, hq2, rfl, flat_strs _, _, rfl, ?_⟩⟩
      show if (!(inV (.str d.1) (es.map V.str))) = true then _ else _
      rw [inV_strs, decide_eq_true i1]
      refine ⟨_, rfl, _, rfl, c, _, rfl, .inl ⟨_, .inr d.1, .inr ⟨od, hc2⟩, rfl, (valV_mem hnd hd).symm⟩, .inl ⟨d.2, rfl, _, rfl, ?_⟩⟩
      rw [decide_eq_true i2]
      exact ⟨rfl, _, rfl⟩
    · obtain ⟨rfl, v, rfl⟩ := p
      exact ⟨hc2, q _ back⟩
/-! ### no ring -/
def UpK (ρ : Str → Nat) (kvs : List (List Key × V)) : Prop := ∀ p ∈ kvs, ∃ x y : Str, p.1 = [.inr x, .inr y] ∧ ρ x < ρ y
theorem valV_some {kvs : List (List Key × V)} {k : List Key} (h : (valV kvs k).isSome = true) : ∃ p ∈ kvs, p.1 = k := by
  unfold valV at h
  rw [Option.isSome_map] at h
  obtain ⟨p, hp⟩ := Option.isSome_iff_exists.mp h
  have h2 : decide (p.1 = k) = true := List.find?_some (p := fun kv : List Key × V => decide (kv.1 = k)) hp
  exact ⟨p, List.mem_of_find?_eq_some hp, of_decide_eq_true h2⟩
theorem UpK.nil {ρ : Str → Nat} : UpK ρ [] := fun p hp => by cases hp
theorem UpK.put {ρ : Str → Nat} {kvs : List (List Key × V)} {x y : Str} {v : V} (h : UpK ρ kvs) (hxy : ρ x < ρ y) : UpK ρ (putK kvs [.inr x, .inr y] v) := by
  intro p hp
  unfold putK at hp
  split at hp
  · obtain ⟨q, hq, e⟩ := List.mem_map.mp hp
    by_cases z : q.1 = [.inr x, .inr y]
    · rw [if_pos z] at e
      subst e
      exact ⟨x, y, z, hxy⟩
    · rw [if_neg z] at e
      subst e
      exact h q hq
  · rcases List.mem_append.mp hp with hp | hp
    · exact h p hp
    · rw [List.mem_singleton] at hp
      subst hp
      exact ⟨x, y, rfl, hxy⟩
theorem UpK.get {ρ : Str → Nat} {kvs : List (List Key × V)} {x y : Str} (h : UpK ρ kvs) (hv : (valV kvs [.inr x, .inr y]).isSome = true) : ρ x < ρ y := by
  obtain ⟨p, hp, e⟩ := valV_some hv
  obtain ⟨x', y', e', hl⟩ := h p hp
  rw [e] at e'
  cases e'
  exact hl
/-- the dict of what is reached, at D -/
def Rst (ρ : Str → Nat) (D : Addr) (n : Nat) (H H' : Hp) : Prop := Ext D H H' ∧ ∃ kvs, H' D = some (.dT kvs) ∧ UpK ρ kvs ∧ kvs.length ≤ n
theorem Rst.new {ρ : Str → Nat} {D : Addr} {n : Nat} {H H' : Hp} {p : Addr} {o : HO} (h : Rst ρ D n H H') (np : H' p = none) : Rst ρ D n H (upd H' p o) := by
  obtain ⟨e, kvs, hD, u, l⟩ := h
  exact ⟨e.trans (Ext.new np), kvs, by rw [upd_ne (ne_of_none hD np)]; exact hD, u, l⟩
theorem Rst.put {ρ : Str → Nat} {D : Addr} {n : Nat} {H H' : Hp} {kvs : List (List Key × V)} {x y : Str} {v : V} (h : Rst ρ D n H H') (hD : H' D = some (.dT kvs)) (hxy : ρ x < ρ y) : Rst ρ D (n + 1) H (upd H' D (.dT (putK kvs [.inr x, .inr y] v))) := by
  obtain ⟨e, kvs', hD', u, l⟩ := h
  rw [hD] at hD'
  cases hD'
  exact ⟨e.trans Ext.at, _, upd_same, u.put hxy, by have := length_putK kvs [.inr x, .inr y] v; omega⟩
theorem Rst.mono {ρ : Str → Nat} {D : Addr} {n m : Nat} {H H' : Hp} (h : Rst ρ D n H H') (l : n ≤ m) : Rst ρ D m H H' := by
  obtain ⟨e, kvs, hD, u, z⟩ := h
  exact ⟨e, kvs, hD, u, Nat.le_trans z l⟩
theorem sq_ne {H : Hp} {a D : Addr} {xs : List V} (h : Sq K H a xs) (hD : H D = none) : ∀ o, H a = some o → a ≠ D := fun o e => ne_of_none e hD
theorem atE {D a : Addr} {H H' : Hp} (hD : H D = none) (e : Ext D H H') : ∀ o, H a = some o → H' a = some o := fun o h => e a o (ne_of_none h hD) h
def spRinged (K : PySem.W.Frag) : Sp := fun vs H Q _ => ∃ (a b : Addr) (es : List Str) (ts : List Addr) (ties : List (Str × Str × Int)) (ρ : Str → Nat), vs = [.ref a, .ref b] ∧ Sq K H a (es.map V.str) ∧ Sq K H b (ts.map V.ref) ∧ TiesAt H ts ties ∧ es.length ≤ 8 ∧ ties.length ≤ 60 ∧
  (∀ t ∈ ties, t.2.2 = 0 → ρ t.1 < ρ t.2.1) ∧ ∀ p H', Same H H' → H' p = some (.lst []) → Q (.ref p) H'
theorem ok_ringed {f : Addr} {fd : FuncData} (F : Fun K "ringed" "ringed" s_ringed f fd) (T : Txt mg) : FnOk P w K mg base CX0 1 f fd ["events", "ties"] (spRinged K) := by
  have nd := sc_ringed.nd
  refine F.ok sc_ringed (fun vs H Q E h => ?_) (fun cdv A outer s H vs Q E hr h => ?_)
  · obtain ⟨_, _, _, _, _, _, rfl, _⟩ := h
    rfl
  · obtain ⟨a, b, es, ts, ties, ρ, rfl, hq, hb, ht, le, lt, hρ, q⟩ := h
    have hu : (A.deeper (envOfC "ringed" (defScope s_ringed) s.heap.objs.size f cdv)).units + 1 < cLine := by
      have := hr.units
      omega
    refine ⟨_, (pss_cons (ps_set (i := 2) nd rfl (Or.inr rfl) (pe_dcT hu (own := [("earlier", 8), ("later", 9), ("lag", 10)]) (g := (gTup K 3 (gCons (gName 8) (gCons (gName 9) (gCons (gName 10) gNil))))) rfl nd (pi_seq K (pv 1)) (blkOk_by (N := ["events", "ties", "reached", "middle", "first", "before", "last", "beyond", "earlier", "later", "lag", "event"]) (sc := defScope s_ringed) (by decide +kernel)) (fun _ _ _ _ _ => (pg_tup rfl (pgs_cons (pg_name (i := 8) nd rfl (Or.inl rfl)) (pgs_cons (pg_name (i := 9) nd rfl (Or.inl rfl)) (pgs_cons (pg_name (i := 10) nd rfl (Or.inl rfl)) pgs_nil))))) (fun _ _ _ _ _ => pts_one (pt_cmpR op_eq (pv 10) pe_int (by rfl))) (fun _ _ _ _ _ => (pe_tup (pa_cons (pv 8) (pa_cons (pv 9) pa_nil)))) (fun _ _ _ _ _ => pe_bl)))
      (pss_cons (ps_for PassesOwn.never rfl (pi_seq K (pv 0)) (pg_name (i := 3) nd rfl (Or.inr rfl))
      (pss_cons (ps_setLc (i := 5) (y := "before") (own := [("first", 4)]) (g := gName 4) rfl nd rfl rfl (sw_true rfl rfl rfl (by decide +kernel)) (pi_seq K (pv 0)) (blkOk_by (N := ["events", "ties", "reached", "middle", "first", "before", "last", "beyond", "earlier", "later", "lag", "event"]) (sc := defScope s_ringed) (by decide +kernel)) (fun _ _ _ _ _ => pg_name (i := 4) nd rfl (Or.inl rfl)) (fun _ _ _ _ _ => pts_one (pt_cmp (pc_din hu (pe_tup (pa_cons (pv 4) (pa_cons (pv 3) pa_nil))) (pv 2)) (by rfl))) (fun _ _ _ _ _ => (pv 4)))
      (pss_cons (ps_setLc (i := 7) (y := "beyond") (own := [("last", 6)]) (g := gName 6) rfl nd rfl rfl (sw_true rfl rfl rfl (by decide +kernel)) (pi_seq K (pv 0)) (blkOk_by (N := ["events", "ties", "reached", "middle", "first", "before", "last", "beyond", "earlier", "later", "lag", "event"]) (sc := defScope s_ringed) (by decide +kernel)) (fun _ _ _ _ _ => pg_name (i := 6) nd rfl (Or.inl rfl)) (fun _ _ _ _ _ => pts_one (pt_cmp (pc_din hu (pe_tup (pa_cons (pv 3) (pa_cons (pv 6) pa_nil))) (pv 2)) (by rfl))) (fun _ _ _ _ _ => (pv 6)))
      (pss_one (ps_for PassesOwn.never rfl (pi_seq K (pv 5)) (pg_name (i := 4) nd rfl (Or.inl rfl))
      (pss_one (ps_for PassesOwn.never rfl (pi_seq K (pv 7)) (pg_name (i := 6) nd rfl (Or.inl rfl))
      (pss_one (ps_dput hu (pv 2) (pe_tup (pa_cons (pv 4) (pa_cons (pv 6) pa_nil))) pe_bl rfl)))))))))
      (pss_one (ps_ret (pe_lc (own := [("event", 11)]) (g := gName 11) rfl nd (pi_seq K (pv 0)) (blkOk_by (N := ["events", "ties", "reached", "middle", "first", "before", "last", "beyond", "earlier", "later", "lag", "event"]) (sc := defScope s_ringed) (by decide +kernel)) (fun _ _ _ _ _ => pg_name (i := 11) nd rfl (Or.inl rfl)) (fun _ _ _ _ _ => pts_one (pt_cmp (pc_din hu (pe_tup (pa_cons (pv 11) (pa_cons (pv 11) pa_nil))) (pv 2)) (by rfl))) (fun _ _ _ _ _ => (pv 11))))))), ?_⟩
    refine seq_asg ?_
    refine dcT_seq (H0 := H) (fun D i H' => Rst ρ D i H H') (fun Q hQ => ⟨_, rfl, hQ⟩) hb (fun _ h => h) (fun D hD => ⟨Ext.new hD, [], upd_same, UpK.nil, Nat.le_refl _⟩) (fun D hD i H' _ p => atE hD p.1) (fun D hD i x H1 hx p => ?_) (fun D hD H1 p1 => ?_)
    · obtain ⟨c, t, rfl, hm, _, hc⟩ := ht.get hx
      have hc1 := p.1 c _ (ne_of_none hc hD) hc
      have hi : i < 60 := by
        have := (List.getElem?_eq_some_iff.mp hx).1
        rw [List.length_map, ht.length] at this
        omega
      refine ⟨c, _, rfl, .inl (.inl hc1), rfl, _, _, rfl, _, _, rfl, _, _, rfl, rfl, rfl, _, rfl, rfl, _, rfl, ite2 (fun e => ?_) (fun _ => p.mono (Nat.le_succ _))⟩
      have e0 : t.2.2 = 0 := by simpa using e
      refine ⟨_, rfl, _, rfl, sz 2, fun T nT => ?_⟩
      have pT := p.new (o := .tup [.str t.1, .str t.2.1]) nT
      obtain ⟨_, kvs, hk, _, hl⟩ := id pT
      exact ⟨kvs, [.inr t.1, .inr t.2.1], T, rfl, upd_same, hk, Nat.lt_of_lt_of_le (by omega) (sz 100), pT.put hk (hρ t hm e0)⟩
    have l60 : Rst ρ D 60 H H1 := p1.mono (by rw [List.length_map, ht.length]; exact lt)
    clear p1
    have aH : ∀ n H', Rst ρ D n H H' → ∀ o, H a = some o → H' a = some o := fun n H' p => atE hD p.1
    have ev : ∀ {i : Nat} {x : V}, (es.map V.str)[i]? = some x → ∃ m, x = .str m := by
      intro i x hx
      rw [List.getElem?_map] at hx
      cases e : es[i]? with
      | none => rw [e] at hx; cases hx
      | some m => rw [e] at hx; cases hx; exact ⟨m, rfl⟩
    have el : ∀ {i : Nat} {x : V}, (es.map V.str)[i]? = some x → i < 8 := by
      intro i x hx
      have := (List.getElem?_eq_some_iff.mp hx).1
      rw [List.length_map] at this
      omega
    have fresh : ∀ {n : Nat} {H' : Hp} {L : Addr}, Rst ρ D n H H' → H' L = none → H L = none := fun {n H' L} p hL => by
      cases e : H L with
      | none => rfl
      | some o =>
        obtain ⟨e1, kvs, hk, _⟩ := p
        have := e1 L o (Ne.symm (ne_of_none hk hL)) e
        rw [hL] at this
        cases this
    have chg : ∀ {n : Nat} {H' : Hp} {L : Addr} {o : HO}, Rst ρ D n H H' → H L = none → L ≠ D → Rst ρ D n H (upd H' L o) := fun {n H' L o} p hL hne => by
      obtain ⟨e, kvs2, hk2, hu2, hl2⟩ := p
      exact ⟨e.mut hL, kvs2, by rw [upd_ne (Ne.symm hne)]; exact hk2, hu2, hl2⟩
    refine gname (seq_st (for_seqA (H0 := H) (fun i σ H' => Rst ρ D (60 + 64 * i) H H' ∧ ∃ v3 v4 v5 v6 v7, σ = [some (.ref a), some (.ref b), some (.ref D), v3, v4, v5, v6, v7, none, none, none, none]) (fun Q hQ => ⟨_, rfl, hQ⟩) hq ⟨l60, none, none, none, none, none, rfl⟩ (fun i _ H' _ p => aH _ _ p.1) (fun i x σ H2 hx p => ?_) (fun σ H2 p => ?_)))
    · obtain ⟨p, v3, v4, v5, v6, v7, rfl⟩ := p
      obtain ⟨m, rfl⟩ := ev hx
      have i8 := el hx
      refine gname ?_
      refine seq_asg ?_
      refine lc_seq (H0 := H) (fun L j H' => Rst ρ D (60 + 64 * i) H H' ∧ L ≠ D ∧ H L = none ∧ ∃ xs : List Str, H' L = some (.lst (xs.map V.str)) ∧ xs.length ≤ j ∧ ∀ x ∈ xs, ρ x < ρ m) (fun Q hQ => ⟨_, rfl, hQ⟩) hq (aH _ _ p) (fun L hL => ?_) (fun L hL j H' _ p => aH _ _ p.1) (fun L hL j x H' hx p => ?_) (fun B hB H3 p3 => ?_)
      · obtain ⟨_, kvs, hk, _⟩ := id p
        exact ⟨p.new hL, Ne.symm (ne_of_none hk hL), fresh p hL, [], upd_same, Nat.le_refl _, fun _ h => by cases h⟩
      · obtain ⟨p, hne, hLH, xs, hxs, hl, hup⟩ := p
        obtain ⟨f, rfl⟩ := ev hx
        have j8 := el hx
        refine ⟨rfl, _, rfl, _, rfl, sz 2, fun T nT => ?_⟩
        have pT := p.new (o := .tup [.str f, .str m]) nT
        have hLT : (upd H' T (.tup [.str f, .str m])) L = some (.lst (xs.map V.str)) := by
          rw [upd_ne (ne_of_none hxs nT)]
          exact hxs
        obtain ⟨_, kvs, hk, hu1, _⟩ := id pT
        refine ⟨_, rfl, D, _, rfl, .inr ⟨kvs, [.inr f, .inr m], T, .inl hk, rfl, upd_same, rfl⟩, _, rfl, ite2 (fun e1 => ?_) (fun _ => ⟨pT, hne, hLH, xs, hLT, Nat.le_succ_of_le hl, hup⟩)⟩
        refine ⟨_, rfl, _, hLT, by rw [List.length_map]; exact Nat.lt_of_lt_of_le (by omega) (sz 100), chg pT hLH hne, hne, hLH, xs ++ [f], by rw [upd_same, List.map_append]; rfl, by rw [List.length_append, List.length_singleton]; omega, fun x hx => ?_⟩
        rcases List.mem_append.mp hx with h | h
        · exact hup x h
        · rw [List.mem_singleton.mp h]
          exact hu1.get e1
      obtain ⟨p3, hBD, hBH, xs, hxs, hxl, hxu⟩ := p3
      rw [List.length_map] at hxl
      refine gname ?_
      refine seq_asg ?_
      refine lc_seq (H0 := H) (fun L j H' => Rst ρ D (60 + 64 * i) H H' ∧ L ≠ D ∧ H L = none ∧ L ≠ B ∧ H' B = some (.lst (xs.map V.str)) ∧ ∃ ys : List Str, H' L = some (.lst (ys.map V.str)) ∧ ys.length ≤ j ∧ ∀ y ∈ ys, ρ m < ρ y) (fun Q hQ => ⟨_, rfl, hQ⟩) hq (aH _ _ p3) (fun L hL => ?_) (fun L hL j H' _ p => aH _ _ p.1) (fun L hL j x H' hx p => ?_) (fun C hC H4 p4 => ?_)
      · obtain ⟨_, kvs, hk, _⟩ := id p3
        have hne := ne_of_none hxs hL
        exact ⟨p3.new hL, Ne.symm (ne_of_none hk hL), fresh p3 hL, Ne.symm hne, by rw [upd_ne hne]; exact hxs, [], upd_same, Nat.le_refl _, fun _ h => by cases h⟩
      · obtain ⟨p, hne, hLH, hLB, hB', ys, hys, hl, hup⟩ := p
        obtain ⟨f, rfl⟩ := ev hx
        have j8 := el hx
        refine ⟨rfl, _, rfl, _, rfl, sz 2, fun T nT => ?_⟩
        have pT := p.new (o := .tup [.str m, .str f]) nT
        have hLT : (upd H' T (.tup [.str m, .str f])) L = some (.lst (ys.map V.str)) := by
          rw [upd_ne (ne_of_none hys nT)]
          exact hys
        have hBT : (upd H' T (.tup [.str m, .str f])) B = some (.lst (xs.map V.str)) := by
          rw [upd_ne (ne_of_none hB' nT)]
          exact hB'
        obtain ⟨_, kvs, hk, hu1, _⟩ := id pT
        refine ⟨_, rfl, D, _, rfl, .inr ⟨kvs, [.inr m, .inr f], T, .inl hk, rfl, upd_same, rfl⟩, _, rfl, ite2 (fun e1 => ?_) (fun _ => ⟨pT, hne, hLH, hLB, hBT, ys, hLT, Nat.le_succ_of_le hl, hup⟩)⟩
        refine ⟨_, rfl, _, hLT, by rw [List.length_map]; exact Nat.lt_of_lt_of_le (by omega) (sz 100), chg pT hLH hne, hne, hLH, hLB, by rw [upd_ne (Ne.symm hLB)]; exact hBT, ys ++ [f], by rw [upd_same, List.map_append]; rfl, by rw [List.length_append, List.length_singleton]; omega, fun x hx => ?_⟩
        rcases List.mem_append.mp hx with h | h
        · exact hup x h
        · rw [List.mem_singleton.mp h]
          exact hu1.get e1
      obtain ⟨p4, hCD, hCH, hCB, hB4, ys, hys, hyl, hyu⟩ := p4
      rw [List.length_map] at hyl
      have sB : Sq K H4 B (xs.map V.str) := .inl (.inl (.inl hB4))
      have sC : Sq K H4 C (ys.map V.str) := .inl (.inl (.inl hys))
      refine gname ?_
      refine for_seqA (H0 := H4) (fun j σ H' => (Rst ρ D (60 + 64 * i + 8 * j) H H' ∧ H' B = some (.lst (xs.map V.str)) ∧ H' C = some (.lst (ys.map V.str))) ∧ ∃ v4 v6, σ = [some (.ref a), some (.ref b), some (.ref D), some (.str m), v4, some (.ref B), v6, some (.ref C), none, none, none, none]) (fun Q hQ => ⟨_, rfl, hQ⟩) sB ⟨⟨p4, hB4, hys⟩, _, _, rfl⟩ (fun j _ H' _ p o ho => by rw [hB4] at ho; cases ho; exact p.1.2.1) (fun j x σ H5 hx5 p => ?_) (fun σ H5 p => ?_)
      · obtain ⟨⟨p, hB5, hC5⟩, w4, w6, rfl⟩ := p
        have j8 : j < 8 := by
          have := (List.getElem?_eq_some_iff.mp hx5).1
          rw [List.length_map] at this
          omega
        obtain ⟨f, rfl, hfm⟩ : ∃ f : Str, x = .str f ∧ ρ f < ρ m := by
          rw [List.getElem?_map] at hx5
          cases e : xs[j]? with
          | none => rw [e] at hx5; cases hx5
          | some f => rw [e] at hx5; cases hx5; exact ⟨f, rfl, hxu f (List.mem_of_getElem? e)⟩
        refine gname (for_seqA (H0 := H4) (fun k σ H' => (Rst ρ D (60 + 64 * i + 8 * j + k) H H' ∧ H' B = some (.lst (xs.map V.str)) ∧ H' C = some (.lst (ys.map V.str))) ∧ ∃ v6, σ = [some (.ref a), some (.ref b), some (.ref D), some (.str m), some (.str f), some (.ref B), v6, some (.ref C), none, none, none, none]) (fun Q hQ => ⟨_, rfl, hQ⟩) sC ⟨⟨p, hB5, hC5⟩, _, rfl⟩ (fun k _ H' _ p o ho => by rw [hys] at ho; cases ho; exact p.1.2.2) (fun k x σ H6 hx6 p => ?_) (fun σ H6 p => ?_))
        · obtain ⟨⟨p, hB6, hC6⟩, u6, rfl⟩ := p
          have k8 : k < 8 := by
            have := (List.getElem?_eq_some_iff.mp hx6).1
            rw [List.length_map] at this
            omega
          obtain ⟨l, rfl, hml⟩ : ∃ f : Str, x = .str f ∧ ρ m < ρ f := by
            rw [List.getElem?_map] at hx6
            cases e : ys[k]? with
            | none => rw [e] at hx6; cases hx6
            | some f => rw [e] at hx6; cases hx6; exact ⟨f, rfl, hyu f (List.mem_of_getElem? e)⟩
          refine gname ?_
          refine ⟨_, rfl, _, rfl, _, rfl, sz 2, fun T3 nT3 => ?_⟩
          have pT3 := p.new (o := .tup [.str f, .str l]) nT3
          obtain ⟨_, kvs3, hk3, hu3, hl3⟩ := id pT3
          have lt3 : ρ f < ρ l := Nat.lt_trans hfm hml
          refine ⟨D, _, rfl, .inr ⟨kvs3, [.inr f, .inr l], T3, hk3, rfl, upd_same, Nat.lt_of_lt_of_le (by omega) (sz 1000), rfl⟩, ⟨(pT3.put hk3 lt3).mono (by omega), ?_, ?_⟩, _, rfl⟩
          · rw [upd_ne hBD, upd_ne (ne_of_none hB6 nT3)]
            exact hB6
          · rw [upd_ne hCD, upd_ne (ne_of_none hC6 nT3)]
            exact hC6
        · obtain ⟨⟨p, hB6, hC6⟩, u6, rfl⟩ := p
          exact ⟨⟨p.mono (by rw [List.length_map]; omega), hB6, hC6⟩, _, _, rfl⟩
      · obtain ⟨⟨p, hB5, hC5⟩, w4, w6, rfl⟩ := p
        exact ⟨p.mono (by rw [List.length_map]; omega), _, _, _, _, _, rfl⟩
    · obtain ⟨p, v3, v4, v5, v6, v7, rfl⟩ := p
      refine ret_of (lc_seq (H0 := H) (fun L i H' => Ext D H H' ∧ H' L = some (.lst []) ∧ L ≠ D ∧ ∃ kvs, H' D = some (.dT kvs) ∧ UpK ρ kvs) (fun Q hQ => ⟨_, rfl, hQ⟩) hq (aH _ _ p) (fun L hL => ?_) (fun L hL i H' _ p => atE hD p.1) (fun L hL i x H' hx p => ?_) (fun L hL H' p => q L H' (fun c o hc => p.1 c o (ne_of_none hc hD) hc) p.2.1))
      · obtain ⟨e, kvs, hk, hu1, _⟩ := p
        have hne := ne_of_none hk hL
        exact ⟨e.trans (Ext.new hL), upd_same, Ne.symm hne, kvs, by rw [upd_ne hne]; exact hk, hu1⟩
      · obtain ⟨e, hL', hne, kvs, hk, hu1⟩ := p
        obtain ⟨m, rfl⟩ := ev hx
        refine ⟨rfl, _, rfl, _, rfl, sz 2, fun T nT => ?_⟩
        have hk' : (upd H' T (.tup [.str m, .str m])) D = some (.dT kvs) := by
          rw [upd_ne (ne_of_none hk nT)]
          exact hk
        refine ⟨_, rfl, D, _, rfl, .inr ⟨kvs, [.inr m, .inr m], T, .inl hk', rfl, upd_same, rfl⟩, _, rfl, ite2 (fun e1 => absurd (hu1.get e1) (Nat.lt_irrefl _)) (fun _ => ?_)⟩
        exact ⟨e.trans (Ext.new nT), by rw [upd_ne (ne_of_none hL' nT)]; exact hL', hne, kvs, hk', hu1⟩

end
end Pk

set_option Elab.async false
set_option linter.all false
set_option maxRecDepth 100000
set_option maxHeartbeats 4000000
namespace Pk
open PySem PySem.Spec PyProof.Rows L2 Pu
abbrev s_Plan___init__ : Stmt := inClass (topS 38) 0
theorem sc_Plan___init__ : FnScope ["self", "events", "ties", "limits", "members"] ["self", "events", "ties", "limits"] (defScope s_Plan___init__) := ⟨rfl, rfl, rfl, by decide +kernel, rfl, by decide +kernel, by decide +kernel⟩
abbrev s_Plan_events : Stmt := inClass (topS 38) 1
theorem sc_Plan_events : FnScope ["self"] ["self"] (defScope s_Plan_events) := ⟨rfl, rfl, rfl, by decide +kernel, rfl, by decide +kernel, by decide +kernel⟩
abbrev s_Plan_ties : Stmt := inClass (topS 38) 2
theorem sc_Plan_ties : FnScope ["self"] ["self"] (defScope s_Plan_ties) := ⟨rfl, rfl, rfl, by decide +kernel, rfl, by decide +kernel, by decide +kernel⟩
abbrev s_Plan_limits : Stmt := inClass (topS 38) 3
theorem sc_Plan_limits : FnScope ["self"] ["self"] (defScope s_Plan_limits) := ⟨rfl, rfl, rfl, by decide +kernel, rfl, by decide +kernel, by decide +kernel⟩
abbrev s_Plan___len__ : Stmt := inClass (topS 38) 5
theorem sc_Plan___len__ : FnScope ["self"] ["self"] (defScope s_Plan___len__) := ⟨rfl, rfl, rfl, by decide +kernel, rfl, by decide +kernel, by decide +kernel⟩
abbrev s_Plan___contains__ : Stmt := inClass (topS 38) 6
theorem sc_Plan___contains__ : FnScope ["self", "value"] ["self", "value"] (defScope s_Plan___contains__) := ⟨rfl, rfl, rfl, by decide +kernel, rfl, by decide +kernel, by decide +kernel⟩
abbrev s_need_plan : Stmt := topS 39
theorem sc_need_plan : FnScope ["plan"] ["plan"] (defScope s_need_plan) := ⟨rfl, rfl, rfl, by decide +kernel, rfl, by decide +kernel, by decide +kernel⟩

section
variable {P : Program} {w : World} {K : PySem.W.Frag} {mg : Str → Option Value} {base : Heap}
/-! ### the class -/
structure PlanC (K : PySem.W.Frag) (C : Addr) : Prop where
  cls : Cls K C
  order : NoAttr K C "order"
  rows : NoAttr K C "rows"
  caps : NoAttr K C "caps"
structure PlanAt (K : PySem.W.Frag) (C : Addr) (H : Hp) (p : Addr) (d : PlanD) : Prop where
  ex : ∃ (dx o r c : Addr) (ts : List Addr), H p = some (.ins C dx [("order", .ref o), ("rows", .ref r), ("caps", .ref c)]) ∧ SqT K H o (d.evs.map V.str) ∧ SqT K H r (ts.map V.ref) ∧ TiesAt H ts d.ties ∧ H c = some (.dK (capsV d.caps))
theorem PlanAt.same {C : Addr} {H H' : Hp} {p : Addr} {d : PlanD} (h : PlanAt K C H p d) (s : Same H H') : PlanAt K C H' p d := by
  obtain ⟨dx, o, r, c, ts, h1, h2, h3, h4, h5⟩ := h.ex
  exact ⟨dx, o, r, c, ts, s _ _ h1, sqt_same h2 s, sqt_same h3 s, h4.same s, s _ _ h5⟩
theorem keepI {H : Hp} {x C dx : Addr} {fs : List (Str × V)} {u : HO} (hx : H x = some (.ins C dx fs)) {b : Addr} {o : HO} (hb : H b = some o) (hn : o ≠ .ins C dx fs) : (upd H x u) b = some o := by
  rw [upd_ne (fun e => hn (by subst e; rw [hx] at hb; cases hb; rfl))]
  exact hb
theorem sqt_ins {H : Hp} {x C dx a : Addr} {fs : List (Str × V)} {u : HO} {xs : List V} (h : SqT K H a xs) (hx : H x = some (.ins C dx fs)) : SqT K (upd H x u) a xs := by
  rcases h with (h | ⟨o, h⟩) | h
  · exact .inl (.inl (keepI hx h (fun z => nomatch z)))
  · exact .inl (.inr ⟨o, keepI hx h (fun z => nomatch z)⟩)
  · exact .inr h
theorem sq_ins {H : Hp} {x C dx a : Addr} {fs : List (Str × V)} {u : HO} {xs : List V} (h : Sq K H a xs) (hx : H x = some (.ins C dx fs)) : Sq K (upd H x u) a xs := by
  rcases h with ((h | ⟨o, h⟩) | h) | h
  · exact .inl (.inl (.inl (keepI hx h (fun z => nomatch z))))
  · exact .inl (.inl (.inr ⟨o, keepI hx h (fun z => nomatch z)⟩))
  · exact .inl (.inr h)
  · exact .inr (sqt_ins h hx)
theorem TiesAt.ins {H : Hp} {x C dx : Addr} {fs : List (Str × V)} {u : HO} {ts : List Addr} {ties : List (Str × Str × Int)} (h : TiesAt H ts ties) (hx : H x = some (.ins C dx fs)) : TiesAt (upd H x u) ts ties := by
  unfold TiesAt at *
  induction h with
  | nil => exact .nil
  | cons r _ ih => exact .cons (keepI hx r (fun z => nomatch z)) ih
theorem LimsAt.ins {H : Hp} {x C dx : Addr} {fs : List (Str × V)} {u : HO} {l : V} {cs : List (Str × Int)} (h : LimsAt H l cs) (hx : H x = some (.ins C dx fs)) : LimsAt (upd H x u) l cs := by
  rcases h with h | ⟨c, e, h⟩
  · exact .inl h
  · exact .inr ⟨c, e, keepI hx h (fun z => nomatch z)⟩
theorem LimsAt.same {H H' : Hp} {l : V} {cs : List (Str × Int)} (h : LimsAt H l cs) (s : Same H H') : LimsAt H' l cs := by
  rcases h with h | ⟨c, e, h⟩
  · exact .inl h
  · exact .inr ⟨c, e, s _ _ h⟩
theorem tupNew {X : Cx} (K : PySem.W.Frag) (h : X.K = K := by rfl) : CallR X (.type "tuple") (fun xs H Q => ∃ p ys, xs = [.ref p] ∧ Sq K H p ys ∧ ∀ q H', Same H H' → SqT K H' q ys → Q (.ref q) H') := by
  intro pins s σ H xs us Q I rv hh
  obtain ⟨p, ys, rfl, hs, q⟩ := hh
  refine tupOf K h pins s σ H _ us Q I rv ⟨p, ys, rfl, ?_⟩
  rcases hs with hl | ht
  · exact .inl ⟨hl, fun l nl => q l _ (same_upd nl) (.inl (.inl upd_same))⟩
  · exact .inr ⟨ht, q p H (Same.refl _) ht⟩
def spInit (K : PySem.W.Frag) (C : Addr) : Sp := fun vs H Q _ => ∃ (x dx a b : Addr) (l : V) (ts : List Addr) (d : PlanD), vs = [.ref x, .ref a, .ref b, l] ∧ H x = some (.ins C dx []) ∧ Sq K H a (d.evs.map V.str) ∧ Sq K H b (ts.map V.ref) ∧ TiesAt H ts d.ties ∧ LimsAt H l d.caps ∧ PlanOk d ∧
  ∀ H', Ext x H H' → PlanAt K C H' x d → Q .non H'
theorem ok_init {C f : Addr} {fd : FuncData} {dv : List V} (F : FunD K "__init__" "Plan.__init__" (defArgs s_Plan___init__) (defBody s_Plan___init__) (defScope s_Plan___init__) dv [("limits", .non)] f fd) (T : Txt mg) (PC : PlanC K C)
    (cneed_events : Cal P w K mg base 2 "need_events" (spEvents K) []) (cneed_ties : Cal P w K mg base 4 "need_ties" (spTies K) []) (cneed_limits : Cal P w K mg base 3 "need_limits" (spLimits K) []) (cringed : Cal P w K mg base 1 "ringed" (spRinged K) []) :
    FnOk P w K mg base CX0 5 f fd ["self", "events", "ties", "limits"] (spInit K C) := by
  have nd := sc_Plan___init__.nd
  refine F.ok sc_Plan___init__ (fun vs H Q E h => ?_) (fun cdv A outer s H vs Q E hr h => ?_)
  · obtain ⟨_, _, _, _, _, _, _, rfl, _⟩ := h
    rfl
  · obtain ⟨x, dx, a, b, l, ts, d, rfl, hx, hq, hb, ht, hl, ok, q⟩ := h
    refine ⟨_, (pss_cons (ps_expr (pe_c cneed_events hr (by decide) rfl (pa_cons (pv 1) pa_nil)))
      (pss_cons (ps_expr (pe_c cneed_ties hr (by decide) rfl (pa_cons (pv 1) (pa_cons (pv 2) pa_nil))))
      (pss_cons (ps_expr (pe_c cneed_limits hr (by decide) rfl (pa_cons (pv 1) (pa_cons (pv 3) pa_nil))))
      (pss_cons (ps_set (i := 4) nd rfl (Or.inl rfl) (pe_c cringed hr (by decide) rfl (pa_cons (pv 1) (pa_cons (pv 2) pa_nil))))
      (pss_cons (ps_if (pt_truth (pv 4) (fun _ => rfl))
      (pss_one ps_no) pss_nil)
      (pss_cons (ps_fld (pv 0) (pe_callTy (tupNew K) (by rfl) T.m_tuple PyProof.Rows.boot_tuple (pa_cons (pv 1) pa_nil)) rfl)
      (pss_cons (ps_fld (pv 0) (pe_callTy (tupNew K) (by rfl) T.m_tuple PyProof.Rows.boot_tuple (pa_cons (pv 2) pa_nil)) rfl)
      (pss_one (ps_fld (pv 0) (pe_ifExp (pt_cmpR op_isN (pv 3) pe_non (by rfl)) pe_dnewK (pe_callTy call_dictD (by rfl) T.m_dict PyProof.Rows.boot_dict (pa_cons (pv 3) pa_nil))) rfl))))))))), ?_⟩
    obtain ⟨ρ, hρ⟩ := ok.up
    refine ⟨_, rfl, a, d.evs, rfl, hq, ok.evs, fun H1 s1 => ?_⟩
    refine ⟨_, rfl, _, rfl, a, b, d.evs, ts, d.ties, rfl, sq_same hq s1, sq_same hb s1, ht.same s1, ok.tl, ok.tin, fun H2 s2 => ?_⟩
    have t2 := Same.trans s1 s2
    refine ⟨_, rfl, _, rfl, a, d.evs, l, d.caps, rfl, sq_same hq t2, hl.same t2, ok.cnd, ok.cin, fun H3 s3 => ?_⟩
    have t3 := Same.trans t2 s3
    refine ⟨_, rfl, _, rfl, a, b, d.evs, ts, d.ties, ρ, rfl, sq_same hq t3, sq_same hb t3, ht.same t3, ok.evs.hi, ok.tl, hρ, fun p H4 s4 hp => ?_⟩
    have t4 := Same.trans t3 s4
    refine ⟨_, rfl, false, .inl ⟨[], .inl (.inl hp), rfl⟩, ?_⟩
    refine ⟨_, rfl, a, _, rfl, sq_same hq t4, fun o H5 s5 ho => ?_⟩
    have t5 := Same.trans t4 s5
    have x5 := t5 _ _ hx
    refine ⟨_, rfl, x, C, dx, _, rfl, x5, PC.cls, PC.order, (show (0 : Nat) < 1000 by decide), ?_⟩
    have x6 : (upd H5 x (.ins C dx (putF "order" (.ref o) []))) x = some (.ins C dx [("order", .ref o)]) := upd_same
    have b6 := sq_ins (u := .ins C dx (putF "order" (.ref o) [])) (sq_same hb t5) x5
    have ht6 := (ht.same t5).ins (u := .ins C dx (putF "order" (.ref o) [])) x5
    have l6 := (hl.same t5).ins (u := .ins C dx (putF "order" (.ref o) [])) x5
    have o6 := sqt_ins (u := .ins C dx (putF "order" (.ref o) [])) ho x5
    have e6 : Ext x H (upd H5 x (.ins C dx (putF "order" (.ref o) []))) := fun c u hc hu => by
      rw [upd_ne hc]
      exact t5 _ _ hu
    revert x6 b6 ht6 l6 o6 e6
    generalize upd H5 x (.ins C dx (putF "order" (.ref o) [])) = H6
    intro x6 b6 ht6 l6 o6 e6
    refine ⟨_, rfl, b, _, rfl, b6, fun r H7 s7 hr7 => ?_⟩
    have x7 := s7 _ _ x6
    refine ⟨_, rfl, x, C, dx, _, rfl, x7, PC.cls, PC.rows, (show (1 : Nat) < 1000 by decide), ?_⟩
    have x8 : (upd H7 x (.ins C dx (putF "rows" (.ref r) [("order", .ref o)]))) x = some (.ins C dx [("order", .ref o), ("rows", .ref r)]) := upd_same
    have ht8 := (ht6.same s7).ins (u := .ins C dx (putF "rows" (.ref r) [("order", .ref o)])) x7
    have l8 := (l6.same s7).ins (u := .ins C dx (putF "rows" (.ref r) [("order", .ref o)])) x7
    have o8 := sqt_ins (u := .ins C dx (putF "rows" (.ref r) [("order", .ref o)])) (sqt_same o6 s7) x7
    have r8 := sqt_ins (u := .ins C dx (putF "rows" (.ref r) [("order", .ref o)])) hr7 x7
    have e8 : Ext x H (upd H7 x (.ins C dx (putF "rows" (.ref r) [("order", .ref o)]))) := fun c u hc hu => by
      rw [upd_ne hc]
      exact s7 _ _ (e6 c u hc hu)
    revert x8 ht8 l8 o8 r8 e8
    generalize upd H7 x (.ins C dx (putF "rows" (.ref r) [("order", .ref o)])) = H8
    intro x8 ht8 l8 o8 r8 e8
    have fin : ∀ (c : Addr) (H9 : Hp), Same H8 H9 → H9 c = some (.dK (capsV d.caps)) → Q .non (upd H9 x (.ins C dx (putF "caps" (.ref c) [("order", .ref o), ("rows", .ref r)]))) := by
      intro c H9 s9 hc
      have x9 := s9 _ _ x8
      refine q _ (fun y u hy hu => ?_) ⟨dx, o, r, c, ts, upd_same, sqt_ins (sqt_same o8 s9) x9, sqt_ins (sqt_same r8 s9) x9, (ht8.same s9).ins x9, keepI x9 hc (fun z => nomatch z)⟩
      rw [upd_ne hy]
      exact s9 _ _ (e8 y u hy hu)
    rcases l8 with ⟨rfl, e⟩ | ⟨c, rfl, hc⟩
    · refine ⟨_, rfl, rfl, _, rfl, fun c nc => ?_⟩
      have s9 : Same H8 (upd H8 c (.dK [])) := same_upd nc
      refine ⟨_, rfl, x, C, dx, _, rfl, s9 _ _ x8, PC.cls, PC.caps, (show (2 : Nat) < 1000 by decide), fin c _ s9 (by rw [upd_same, e]; rfl)⟩
    · refine ⟨_, rfl, rfl, _, rfl, ite2 (fun e => nomatch of_decide_eq_true e) (fun _ => ?_)⟩
      refine ⟨_, rfl, c, _, rfl, .inl hc, fun c2 nc => ?_⟩
      have s9 : Same H8 (upd H8 c2 (.dK (capsV d.caps))) := same_upd nc
      exact ⟨_, rfl, x, C, dx, _, rfl, s9 _ _ x8, PC.cls, PC.caps, (show (2 : Nat) < 1000 by decide), fin c2 _ s9 upd_same⟩

end
end Pk

set_option Elab.async false
set_option linter.all false
set_option maxRecDepth 100000
set_option maxHeartbeats 4000000
namespace Pk
open PySem PySem.Spec PyProof.Rows L2 Pu
section
variable {P : Program} {w : World} {K : PySem.W.Frag} {mg : Str → Option Value} {base : Heap}
/-! ### what a plan tells -/
def spPEvents (K : PySem.W.Frag) (C : Addr) : Sp := fun vs H Q _ => ∃ (p : Addr) (d : PlanD), vs = [.ref p] ∧ PlanAt K C H p d ∧ ∀ q, H q = none → Q (.ref q) (upd H q (.lst (d.evs.map V.str)))
theorem ok_p_events {C f : Addr} {fd : FuncData} (F : Fun K "events" "Plan.events" s_Plan_events f fd) (T : Txt mg) (PC : PlanC K C) : FnOk P w K mg base CX0 1 f fd ["self"] (spPEvents K C) := by
  have nd := sc_Plan_events.nd
  refine F.ok sc_Plan_events (fun vs H Q E h => ?_) (fun cdv A outer s H vs Q E hr h => ?_)
  · obtain ⟨_, _, rfl, _⟩ := h
    rfl
  · obtain ⟨p, d, rfl, hp, q⟩ := h
    obtain ⟨dx, o, r, c, ts, h1, h2, h3, h4, h5⟩ := hp.ex
    refine ⟨_, (pss_one (ps_ret (pe_callTy (lstOf K) (by rfl) T.m_list PyProof.Rows.boot_list (pa_cons (pe_fld (pv 0) rfl) pa_nil)))), ?_⟩
    exact ⟨_, rfl, p, C, dx, _, _, rfl, h1, PC.cls, PC.order, rfl, o, _, rfl, .inr h2, fun l nl => q l nl⟩
def spPTies (K : PySem.W.Frag) (C : Addr) : Sp := fun vs H Q _ => ∃ (p : Addr) (d : PlanD), vs = [.ref p] ∧ PlanAt K C H p d ∧ ∀ q ts, H q = none → TiesAt H ts d.ties → Q (.ref q) (upd H q (.lst (ts.map V.ref)))
theorem ok_p_ties {C f : Addr} {fd : FuncData} (F : Fun K "ties" "Plan.ties" s_Plan_ties f fd) (T : Txt mg) (PC : PlanC K C) : FnOk P w K mg base CX0 1 f fd ["self"] (spPTies K C) := by
  have nd := sc_Plan_ties.nd
  refine F.ok sc_Plan_ties (fun vs H Q E h => ?_) (fun cdv A outer s H vs Q E hr h => ?_)
  · obtain ⟨_, _, rfl, _⟩ := h
    rfl
  · obtain ⟨p, d, rfl, hp, q⟩ := h
    obtain ⟨dx, o, r, c, ts, h1, h2, h3, h4, h5⟩ := hp.ex
    refine ⟨_, (pss_one (ps_ret (pe_callTy (lstOf K) (by rfl) T.m_list PyProof.Rows.boot_list (pa_cons (pe_fld (pv 0) rfl) pa_nil)))), ?_⟩
    exact ⟨_, rfl, p, C, dx, _, _, rfl, h1, PC.cls, PC.rows, rfl, r, _, rfl, .inr h3, fun l nl => q l ts nl h4⟩
def spPLimits (K : PySem.W.Frag) (C : Addr) : Sp := fun vs H Q _ => ∃ (p : Addr) (d : PlanD), vs = [.ref p] ∧ PlanAt K C H p d ∧ ∀ q, H q = none → Q (.ref q) (upd H q (.dK (capsV d.caps)))
theorem ok_p_limits {C f : Addr} {fd : FuncData} (F : Fun K "limits" "Plan.limits" s_Plan_limits f fd) (T : Txt mg) (PC : PlanC K C) : FnOk P w K mg base CX0 1 f fd ["self"] (spPLimits K C) := by
  have nd := sc_Plan_limits.nd
  refine F.ok sc_Plan_limits (fun vs H Q E h => ?_) (fun cdv A outer s H vs Q E hr h => ?_)
  · obtain ⟨_, _, rfl, _⟩ := h
    rfl
  · obtain ⟨p, d, rfl, hp, q⟩ := h
    obtain ⟨dx, o, r, c, ts, h1, h2, h3, h4, h5⟩ := hp.ex
    refine ⟨_, (pss_one (ps_ret (pe_callTy call_dictD (by rfl) T.m_dict PyProof.Rows.boot_dict (pa_cons (pe_fld (pv 0) rfl) pa_nil)))), ?_⟩
    exact ⟨_, rfl, p, C, dx, _, _, rfl, h1, PC.cls, PC.caps, rfl, c, _, rfl, .inl h5, fun l nl => q l nl⟩
def spPLen (K : PySem.W.Frag) (C : Addr) : Sp := fun vs H Q _ => ∃ (p : Addr) (d : PlanD), vs = [.ref p] ∧ PlanAt K C H p d ∧ Q (.int (d.evs.length : Nat)) H
theorem ok_p_len {C f : Addr} {fd : FuncData} (F : Fun K "__len__" "Plan.__len__" s_Plan___len__ f fd) (T : Txt mg) (PC : PlanC K C) : FnOk P w K mg base CX0 1 f fd ["self"] (spPLen K C) := by
  have nd := sc_Plan___len__.nd
  refine F.ok sc_Plan___len__ (fun vs H Q E h => ?_) (fun cdv A outer s H vs Q E hr h => ?_)
  · obtain ⟨_, _, rfl, _⟩ := h
    rfl
  · obtain ⟨p, d, rfl, hp, q⟩ := h
    obtain ⟨dx, o, r, c, ts, h1, h2, h3, h4, h5⟩ := hp.ex
    refine ⟨_, (pss_one (ps_ret (pe_callB (lenK K) (by rfl) T.m_len PySem.boot_len (pa_cons (pe_fld (pv 0) rfl) pa_nil)))), ?_⟩
    refine ⟨_, rfl, p, C, dx, _, _, rfl, h1, PC.cls, PC.order, rfl, .inl ⟨o, _, rfl, .inr h2, ?_⟩⟩
    rw [List.length_map]
    exact q
def spPIn (K : PySem.W.Frag) (C : Addr) : Sp := fun vs H Q _ => ∃ (p : Addr) (v : V) (d : PlanD), vs = [.ref p, v] ∧ PlanAt K C H p d ∧ ((∃ e, v = .str e ∧ Q (.bl (decide (e ∈ d.evs))) H) ∨ ∃ t, TyX K H v t ∧ PySem.W.kitOne K t (.type "str") = some false ∧ Q (.bl false) H)
theorem ok_p_in {C f : Addr} {fd : FuncData} (F : Fun K "__contains__" "Plan.__contains__" s_Plan___contains__ f fd) (T : Txt mg) (PC : PlanC K C) : FnOk P w K mg base CX0 1 f fd ["self", "value"] (spPIn K C) := by
  have nd := sc_Plan___contains__.nd
  refine F.ok sc_Plan___contains__ (fun vs H Q E h => ?_) (fun cdv A outer s H vs Q E hr h => ?_)
  · obtain ⟨_, _, _, rfl, _⟩ := h
    rfl
  · obtain ⟨p, v, d, rfl, hp, q⟩ := h
    obtain ⟨dx, o, r, c, ts, h1, h2, h3, h4, h5⟩ := hp.ex
    refine ⟨_, (pss_one (ps_ret (pe_and (pe_callB (isiK K) (by rfl) T.m_isinstance PyProof.Rows.boot_isinstance (pa_cons (pv 1) (pa_cons (pe_bltn (v := .ty "str") rfl T.m_str PyProof.Rows.boot_str rfl) pa_nil))) (pe_one (pe_cmpR (oIn K) (pv 1) (pe_fld (pv 0) rfl) (by rfl)))))), ?_⟩
    rcases q with ⟨e, rfl, q⟩ | ⟨t, ht, hk, q⟩
    · refine ⟨_, rfl, _, _, _, _, _, rfl, .ty _, .base (.str e), kity true (by decide) (by decide) rfl, _, rfl, ?_⟩
      refine ⟨_, rfl, _, rfl, p, C, dx, _, _, rfl, h1, PC.cls, PC.order, rfl, .inr ⟨o, _, rfl, .inr h2, rfl, flat_strs _, ?_⟩⟩
      show Q (.bl (inV (.str e) (d.evs.map V.str))) H
      rw [inV_strs]
      exact q
    · exact ⟨_, rfl, _, _, _, _, _, rfl, .ty _, ht, hk, _, rfl, q⟩

end
end Pk

set_option Elab.async false
set_option linter.all false
set_option maxRecDepth 100000
set_option maxHeartbeats 4000000
namespace Pk
open PySem PySem.Spec PyProof.Rows L2 Pu
open PySem.Er (ErrTxt)
section
variable {P : Program} {w : World} {K : PySem.W.Frag} {mg : Str → Option Value} {base : Heap}
/-! ### plans as arguments -/
structure PlanI (K : PySem.W.Frag) (C : Addr) : Prop extends PlanC K C where
  ha : PySem.W.findIn K (.ref C) "__class__" = some (some (.builtin "object.__class__"))
  hn : PySem.W.specialIn K (.builtin "object.__class__") "__get__" = some (some (.builtin "getset_descriptor.__get__"))
  htk : PySem.W.takesIn K (.builtin "object.__class__") = some true
  hm : PySem.W.mroIn K C (.type "object") = some true
  isi : PySem.W.kitOne K (.ref C) (.ref C) = some true
theorem PlanAt.ty {C : Addr} {H : Hp} {p : Addr} {d : PlanD} (h : PlanAt K C H p d) (PI : PlanI K C) : TyX K H (.ref p) (.ref C) := by
  obtain ⟨dx, o, r, c, ts, h1, _⟩ := h.ex
  exact .base (.ins h1 PI.cls PI.ha PI.hn PI.htk PI.hm)
/-- no plan -/
def NoPlan (K : PySem.W.Frag) (C : Addr) (H : Hp) (v : V) : Prop := ∃ t, TyX K H v t ∧ PySem.W.kitOne K t (.ref C) = some false
/-- the error e of the class CE with the field f -/
abbrev Out (CE : Addr) (f : Str) (v : V) (E : XK) (H : Hp) : Prop := ∀ dd, H dd = none → E (.ref CE) (some dd) (upd H dd (.xd [(f, v)]))
def spNeedPlan (K : PySem.W.Frag) (C CE : Addr) : Sp := fun vs H Q E => ∃ v, vs = [v] ∧ ((∃ p d, v = .ref p ∧ PlanAt K C H p d ∧ Q .non H) ∨ (NoPlan K C H v ∧ Out CE "value" v E H))
theorem ok_need_plan {C CE fE f : Addr} {fd : FuncData} (F : Fun K "need_plan" "need_plan" s_need_plan f fd) (T : Txt mg) (PI : PlanI K C) (m_Plan : mg "Plan" = some (.ref C)) (e_InvalidPlan : ErrTxt K mg "InvalidPlan" "value" CE fE) :
    FnOk P w K mg base (L2.CX P w) 1 f fd ["plan"] (spNeedPlan K C CE) := by
  have nd := sc_need_plan.nd
  refine F.okX sc_need_plan (fun vs H Q E h => ?_) (fun cdv A outer s H vs Q E hr h => ?_)
  · obtain ⟨_, rfl, _⟩ := h
    rfl
  · obtain ⟨v, rfl, h⟩ := h
    refine ⟨_, (pss_one (ps_if (pt_not (pt_val (pe_callB (isiK K) (by rfl) T.m_isinstance PyProof.Rows.boot_isinstance (pa_cons (pv 0) (pa_cons (pe_cls rfl m_Plan) pa_nil)))))
      (pss_one (ps_raiseE rfl e_InvalidPlan hr (takes_of rfl rfl rfl rfl) (pa_cons (pv 0) pa_nil) rfl)) pss_nil)), ?_⟩
    rcases h with ⟨p, d, rfl, hp, q⟩ | ⟨⟨t, ht, hk⟩, e⟩
    · exact ⟨_, rfl, _, _, _, _, _, rfl, .own _, hp.ty PI, PI.isi, _, rfl, q⟩
    · exact ⟨_, rfl, _, _, _, _, _, rfl, .own _, ht, hk, _, rfl, _, rfl, _, rfl, e⟩
/-! ### methods of the class -/
structure CalM (P : Program) (w : World) (K : PySem.W.Frag) (mg : Str → Option Value) (base : Heap) (k : Nat) (C : Addr) (m : Str) (sp : Sp) : Prop where
  ex : ∃ (f : Addr) (fd : FuncData) (ps : List Str), FnOk P w K mg base CX0 k f fd ps sp ∧ Binds K fd ps [] ∧ PySem.W.findIn K (.ref C) m = some (some (.ref f)) ∧ PySem.W.isFn K (.ref f) = true ∧ PySem.W.keepIn K (.ref f) = true
theorem CalM.own {X : Cx} {k : Nat} {C : Addr} {m : Str} {sp : Sp} (c : CalM X.prog X.w X.K X.mg X.base k C m sp) : Own X CX0 k C m sp := by
  obtain ⟨f, fd, ps, h1, h2, h3, h4, h5⟩ := c.ex
  exact ⟨f, fd, ps, h1, h2, h3, h4⟩
theorem pe_m0' {X : Cx} {k j : Nat} {C : Addr} {m : Str} {sp : Sp} {o : Expr} {ta : TE} {apos pos : Pos} {pl : Sem Bool} (he : PE X o ta) (cl : Cls X.K C) (c : CalM X.prog X.w X.K X.mg X.base k C m sp) (hr : Room j X.A) (hk : k ≤ j)
    (ht : eval (.Call (.Attribute o m apos) [] [] pos) X.env = (do
      let ov ← eval o X.env
      standAt apos.atName
      let (f, first) ← holding [ov] (getMethod ov m pl)
      callWith pos f first (backTo pos (starEach [] X.env)) (backToKw pos (keywordEach [] X.env))) := by rfl) : PE X (.Call (.Attribute o m apos) [] [] pos) (tMeth C m sp [] E0 ta tNil) := by
  obtain ⟨f, fd, ps, h1, h2, h3, h4, h5⟩ := c.ex
  exact pe_meth0 he cl ⟨h3, h4, h5⟩ h1 (hr.mono hk) h2 .nil pass0 ht

end
end Pk

set_option Elab.async false
set_option linter.all false
set_option maxRecDepth 100000
set_option maxHeartbeats 4000000
namespace Pk
open PySem PySem.Spec PyProof.Rows L2 Pu
open PySem.Er (ErrTxt)
abbrev s_is_counts : Stmt := topS 42
theorem sc_is_counts : FnScope ["plan", "value", "event"] ["plan", "value"] (defScope s_is_counts) := ⟨rfl, rfl, rfl, by decide +kernel, rfl, by decide +kernel, by decide +kernel⟩
abbrev s_need_counts : Stmt := topS 43
theorem sc_need_counts : FnScope ["plan", "value"] ["plan", "value"] (defScope s_need_counts) := ⟨rfl, rfl, rfl, by decide +kernel, rfl, by decide +kernel, by decide +kernel⟩

section
variable {P : Program} {w : World} {K : PySem.W.Frag} {mg : Str → Option Value} {base : Heap}
/-! ### counts -/
def flat4 : V → Bool
  | .int _ => true
  | .bl _ => true
  | .str _ => true
  | .non => true
  | _ => false
def cntB : V → Bool
  | .int i => decide (0 ≤ i)
  | _ => false
theorem cnt_cases {v : V} {H : Hp} (h : flat4 v = true) : (∃ i, v = .int i ∧ cntB v = decide (0 ≤ i)) ∨ ∃ t : String, TyX K H v (.type t) ∧ t ∈ kinds ∧ t ≠ "int" ∧ cntB v = false := by
  cases v with
  | int i => exact .inl ⟨i, rfl, rfl⟩
  | bl b => exact .inr ⟨"bool", .base (.bl b), by decide, by decide, rfl⟩
  | str s => exact .inr ⟨"str", .base (.str s), by decide, by decide, rfl⟩
  | non => exact .inr ⟨"NoneType", .base .non, by decide, by decide, rfl⟩
  | _ => exact Bool.noConfusion h
def itemB (kvs : List (Key × V)) (e : Str) : Bool := match valV kvs (.inr e) with
  | some v => cntB v
  | none => false
/-- is a dict counts of these events? -/
def countsB (es : List Str) (kvs : List (Key × V)) : Bool := decide (kvs.length = es.length) && es.all (itemB kvs)
theorem valV_in {kvs : List (Key × V)} {k : Key} {v : V} (h : valV kvs k = some v) : ∃ p ∈ kvs, p.2 = v := by
  unfold valV at h
  cases e : kvs.find? fun kv => decide (kv.1 = k) with
  | none => rw [e] at h; cases h
  | some p =>
    rw [e] at h
    cases h
    exact ⟨p, List.mem_of_find?_eq_some e, rfl⟩
/-- what may stand where counts are asked: a dict of flat values, or another thing -/
def spIsCounts (K : PySem.W.Frag) (C CE : Addr) : Sp := fun vs H Q E => ∃ v y, vs = [v, y] ∧ ((NoPlan K C H v ∧ Out CE "value" v E H) ∨ ∃ (p : Addr) (d : PlanD), v = .ref p ∧ PlanAt K C H p d ∧ d.evs.length ≤ 8 ∧
  ((∃ t, TyX K H y t ∧ PySem.W.kitOne K t (.type "dict") = some false ∧ Q (.bl false) H) ∨
    ∃ (c : Addr) (kvs : List (Key × V)), y = .ref c ∧ H c = some (.dK kvs) ∧ (∀ p ∈ kvs, flat4 p.2 = true) ∧ ∀ H', Same H H' → Q (.bl (countsB d.evs kvs)) H'))
theorem ok_is_counts {C CE f : Addr} {fd : FuncData} (F : Fun K "is_counts" "is_counts" s_is_counts f fd) (T : Txt mg) (PI : PlanI K C) (cneed_plan : CalX P w K mg base 1 "need_plan" (spNeedPlan K C CE)) (cLen : CalM P w K mg base 1 C "__len__" (spPLen K C)) (cEvents : CalM P w K mg base 1 C "events" (spPEvents K C)) (cis_count : Cal P w K mg base 2 "is_count" (spIsCount K) []) :
    FnOk P w K mg base (L2.CX P w) 3 f fd ["plan", "value"] (spIsCounts K C CE) := by
  have nd := sc_is_counts.nd
  refine F.okX sc_is_counts (fun vs H Q E h => ?_) (fun cdv A outer s H vs Q E hr h => ?_)
  · obtain ⟨_, _, rfl, _⟩ := h
    rfl
  · obtain ⟨v, y, rfl, h⟩ := h
    have hu : (A.deeper (envOfC "is_counts" (defScope s_is_counts) s.heap.objs.size f cdv)).units + 1 < cLine := by
      have := hr.units
      omega
    refine ⟨_, (pss_cons (ps_expr (pe_cX cneed_plan (takes_of rfl rfl rfl rfl) hr (by decide) rfl (pa_cons (pv 0) pa_nil)))
      (pss_cons (ps_if (PW.pt (pw_or (pt_not (pt_val (pe_callB (isiK K) (by rfl) T.m_isinstance PyProof.Rows.boot_isinstance (pa_cons (pv 1) (pa_cons (pe_bltn (v := .ty "dict") rfl T.m_dict PyProof.Rows.boot_dict rfl) pa_nil))))) (pw_or1 (pt_cmpR op_ne (pe_callB call_lenD (by rfl) T.m_len PySem.boot_len (pa_cons (pv 1) pa_nil)) (pe_callB (call_lenOwn (CalM.own cLen) (hr.mono (by decide)) pass0) (by rfl) T.m_len PySem.boot_len (pa_cons (pv 0) pa_nil)) (by rfl)))))
      (pss_one (ps_ret pe_bl)) pss_nil)
      (pss_one (ps_ret (pe_callB (cr_all rfl) (by rfl) T.m_all PyProof.Rows.boot_all (pa_cons (pe_lc (own := [("event", 2)]) (g := gName 2) (tt := tYes) rfl nd (pi_list (pe_m0' (pv 0) PI.cls cEvents hr (by decide))) (blkOk_by (N := ["plan", "value", "event"]) (sc := defScope s_is_counts) (by decide +kernel)) (fun _ _ _ _ _ => pg_name (i := 2) nd rfl (Or.inl rfl)) (fun _ _ _ _ _ => pts_nil) (fun _ _ _ _ _ => (pe_and (pe_cmp (pc_din hu (pv 2) (pv 1)) (by rfl)) (pe_one (pe_c cis_count hr (by decide) rfl (pa_cons (pe_dget hu (pv 1) (pv 2) (fun _ _ => rfl)) pa_nil)))))) pa_nil)))))), ?_⟩
    rcases h with ⟨hn, e⟩ | ⟨p, d, rfl, hp, hl8, h⟩
    · exact ⟨_, rfl, v, rfl, .inr ⟨hn, e⟩⟩
    refine ⟨_, rfl, _, rfl, .inl ⟨p, d, rfl, hp, ?_⟩⟩
    rcases h with ⟨t, ht, hk, q⟩ | ⟨c, kvs, rfl, hc, hf, q⟩
    · exact ⟨_, rfl, _, _, _, _, _, rfl, .ty _, ht, hk, _, rfl, q⟩
    refine ⟨_, rfl, _, _, _, _, _, rfl, .ty _, .base (.dK hc), kity true (by decide) (by decide) rfl, _, rfl, ?_⟩
    have hp1 := hp.ex
    obtain ⟨dx, o, r, cc, ts, h1, _⟩ := hp1
    refine ⟨_, rfl, c, kvs, rfl, hc, _, rfl, p, dx, _, rfl, h1, p, d, rfl, hp, d.evs.length, rfl, by omega, rfl, _, rfl, ite2 (fun e => ?_) (fun e => ?_)⟩
    · have e1 : kvs.length ≠ d.evs.length := fun z => by
        rw [z] at e
        simp [eqV] at e
      have := q H (Same.refl H)
      unfold countsB at this
      rw [decide_eq_false e1, Bool.false_and] at this
      exact this
    have e1 : kvs.length = d.evs.length := by
      by_cases z : kvs.length = d.evs.length
      · exact z
      · exact absurd (by simp [eqV]; omega) e
    refine ⟨_, rfl, p, dx, _, rfl, h1, rfl, p, d, rfl, hp, fun l nl => ⟨l, rfl, ⟨_, .inl (.inl upd_same)⟩, fun D hD => ?_⟩⟩
    have hl1 : (upd H l (.lst (d.evs.map V.str))) l = some (.lst (d.evs.map V.str)) := upd_same
    have sl : Same H (upd H l (.lst (d.evs.map V.str))) := same_upd nl
    revert hD hl1 sl
    generalize upd H l (.lst (d.evs.map V.str)) = H1
    intro hD hl1 sl
    refine lc_it (walk_list (xs := d.evs.map V.str)) (fun i H' => Same H1 H' ∧ H' D = some (.lst (((d.evs.take i).map (itemB kvs)).map V.bl))) ⟨same_upd hD, upd_same⟩ (fun i H' _ p => .inl (.inl (p.1 _ _ hl1))) (fun i x H2 H3 hi p y => ?_) (fun H2 p => ?_)
    · obtain ⟨rfl, hx⟩ := y
      rw [List.length_map] at hi
      rw [List.getElem?_map, List.getElem?_eq_getElem hi] at hx
      cases hx
      have hc2 := p.1 _ _ (sl _ _ hc)
      have fin : ∀ b, b = itemB kvs d.evs[i] → ∃ acc, H3 D = some (.lst acc) ∧ acc.length < sizeLine ∧ (Same H1 (upd H3 D (.lst (acc ++ [.bl b]))) ∧ (upd H3 D (.lst (acc ++ [.bl b]))) D = some (.lst (((d.evs.take (i + 1)).map (itemB kvs)).map V.bl))) := by
        rintro b rfl
        refine ⟨_, p.2, ?_, fun b' o' hb => ?_, ?_⟩
        · rw [List.length_map, List.length_map, List.length_take]
          exact Nat.lt_of_le_of_lt (Nat.min_le_right _ _) (Nat.lt_of_lt_of_le (by omega) (sz 100))
        · rw [upd_ne (ne_of_none hb hD)]
          exact p.1 _ _ hb
        · rw [upd_same, List.take_add_one, List.getElem?_eq_getElem hi, List.map_append, List.map_append]
          rfl
      refine ⟨rfl, _, rfl, _, rfl, c, _, rfl, .inl ⟨kvs, .inr d.evs[i], .inl hc2, rfl, rfl⟩, _, rfl, ite2 (fun e => ?_) (fun e => ?_)⟩
      · obtain ⟨v, hv⟩ := Option.isSome_iff_exists.mp e
        obtain ⟨pv, hpv, rfl⟩ := valV_in hv
        refine ⟨_, rfl, _, rfl, c, _, rfl, .inl ⟨kvs, .inr d.evs[i], .inl hc2, rfl, hv.symm⟩, ?_⟩
        have e3 : cntB pv.2 = itemB kvs d.evs[i] := by
          unfold itemB
          rw [hv]
        rcases cnt_cases (K := K) (H := H3) (hf pv hpv) with ⟨i0, e4, e5⟩ | ⟨t, h1, h2, h3, e5⟩
        · exact .inl ⟨i0, by rw [e4]; rfl, fin _ (e5 ▸ e3)⟩
        · exact .inr ⟨pv.2, t, rfl, h1, h2, h3, fin _ (e5 ▸ e3)⟩
      · refine fin false ?_
        unfold itemB
        cases hv : valV kvs (.inr d.evs[i]) with
        | none => rfl
        | some v => exact absurd (by rw [hv]; rfl) e
    · refine ⟨D, _, rfl, .inl (.inl p.2), ?_⟩
      rw [List.length_map, List.take_length]
      have := q H2 (Same.trans sl p.1)
      unfold countsB at this
      rw [decide_eq_true e1, Bool.true_and] at this
      rw [List.all_map]
      exact this

end
end Pk

set_option Elab.async false
set_option linter.all false
set_option maxRecDepth 100000
set_option maxHeartbeats 4000000
namespace Pk
open PySem PySem.Spec PyProof.Rows L2 Pu
open PySem.Er (ErrTxt)
abbrev s_barred : Stmt := topS 44
theorem sc_barred : FnScope ["plan", "counts", "index", "earlier", "later", "lag", "limits", "event"] ["plan", "counts"] (defScope s_barred) := ⟨rfl, rfl, rfl, by decide +kernel, rfl, by decide +kernel, by decide +kernel⟩
abbrev s_is_moment : Stmt := topS 45
theorem sc_is_moment : FnScope ["plan", "counts"] ["plan", "counts"] (defScope s_is_moment) := ⟨rfl, rfl, rfl, by decide +kernel, rfl, by decide +kernel, by decide +kernel⟩
abbrev s_need_moment : Stmt := topS 46
theorem sc_need_moment : FnScope ["plan", "counts"] ["plan", "counts"] (defScope s_need_moment) := ⟨rfl, rfl, rfl, by decide +kernel, rfl, by decide +kernel, by decide +kernel⟩

section
variable {P : Program} {w : World} {K : PySem.W.Frag} {mg : Str → Option Value} {base : Heap}
/-! ### need_counts -/
/-- another thing than a dict, or a dict of flat values that is no counts -/
def NoCounts (K : PySem.W.Frag) (d : PlanD) (H : Hp) (y : V) : Prop := (∃ t, TyX K H y t ∧ PySem.W.kitOne K t (.type "dict") = some false) ∨
  ∃ (c : Addr) (kvs : List (Key × V)), y = .ref c ∧ H c = some (.dK kvs) ∧ (∀ p ∈ kvs, flat4 p.2 = true) ∧ countsB d.evs kvs = false
def Counts (d : PlanD) (H : Hp) (y : V) (kvs : List (Key × V)) : Prop := ∃ c : Addr, y = .ref c ∧ H c = some (.dK kvs) ∧ (∀ p ∈ kvs, flat4 p.2 = true) ∧ countsB d.evs kvs = true
theorem Counts.same {d : PlanD} {H H' : Hp} {y : V} {kvs : List (Key × V)} (h : Counts d H y kvs) (s : Same H H') : Counts d H' y kvs := by
  obtain ⟨c, e, h1, h2⟩ := h
  exact ⟨c, e, s _ _ h1, h2⟩
/-- what is due ahead of what counts of a plan are asked for: the plan, then the counts -/
def Due (K : PySem.W.Frag) (C CE CF : Addr) (v y : V) (H : Hp) (E : XK) (R : Addr → PlanD → List (Key × V) → Prop) : Prop :=
  (NoPlan K C H v ∧ Out CE "value" v E H) ∨ ∃ (p : Addr) (d : PlanD), v = .ref p ∧ PlanAt K C H p d ∧ d.evs.length ≤ 8 ∧
    ((NoCounts K d H y ∧ ∀ H', Same H H' → Out CF "value" y E H') ∨ ∃ kvs, Counts d H y kvs ∧ R p d kvs)
def spNeedCounts (K : PySem.W.Frag) (C CE CF : Addr) : Sp := fun vs H Q E => ∃ v y, vs = [v, y] ∧ Due K C CE CF v y H E fun _ _ _ => ∀ H', Same H H' → Q .non H'
theorem ok_need_counts {C CE CF fF f : Addr} {fd : FuncData} (F : Fun K "need_counts" "need_counts" s_need_counts f fd) (T : Txt mg) (cis_counts : CalX P w K mg base 3 "is_counts" (spIsCounts K C CE)) (e_InvalidCounts : ErrTxt K mg "InvalidCounts" "value" CF fF) :
    FnOk P w K mg base (L2.CX P w) 4 f fd ["plan", "value"] (spNeedCounts K C CE CF) := by
  have nd := sc_need_counts.nd
  refine F.okX sc_need_counts (fun vs H Q E h => ?_) (fun cdv A outer s H vs Q E hr h => ?_)
  · obtain ⟨_, _, rfl, _⟩ := h
    rfl
  · obtain ⟨v, y, rfl, h⟩ := h
    refine ⟨_, (pss_one (ps_if (pt_not (pt_val (pe_cX cis_counts (takes_of rfl rfl rfl rfl) hr (by decide) rfl (pa_cons (pv 0) (pa_cons (pv 1) pa_nil)))))
      (pss_one (ps_raiseE rfl e_InvalidCounts hr (takes_of rfl rfl rfl rfl) (pa_cons (pv 1) pa_nil) rfl)) pss_nil)), ?_⟩
    rcases h with ⟨hn, e⟩ | ⟨p, d, rfl, hp, hl, ⟨hn, e⟩ | ⟨kvs, ⟨c, rfl, h1, h2, h3⟩, q⟩⟩
    · exact ⟨_, rfl, _, rfl, v, y, rfl, .inl ⟨hn, e⟩⟩
    · rcases hn with ⟨t, ht, hk⟩ | ⟨c, kvs, rfl, h1, h2, h3⟩
      · exact ⟨_, rfl, _, rfl, _, y, rfl, .inr ⟨p, d, rfl, hp, hl, .inl ⟨t, ht, hk, _, rfl, _, rfl, _, rfl, e _ (Same.refl _)⟩⟩⟩
      · refine ⟨_, rfl, _, rfl, _, _, rfl, .inr ⟨p, d, rfl, hp, hl, .inr ⟨c, kvs, rfl, h1, h2, fun H' s => ⟨_, rfl, ?_⟩⟩⟩⟩
        rw [h3]
        exact ⟨_, rfl, _, rfl, e _ s⟩
    · refine ⟨_, rfl, _, rfl, _, _, rfl, .inr ⟨p, d, rfl, hp, hl, .inr ⟨c, kvs, rfl, h1, h2, fun H' s => ⟨_, rfl, ?_⟩⟩⟩⟩
      rw [h3]
      exact q _ s
/-! ### barred -/
def cntOf (kvs : List (Key × V)) (e : Str) : Int := match valV kvs (.inr e) with
  | some (.int i) => i
  | _ => 0
theorem cntOf_ok {es : List Str} {kvs : List (Key × V)} (h : countsB es kvs = true) {e : Str} (he : e ∈ es) : valV kvs (.inr e) = some (.int (cntOf kvs e)) ∧ 0 ≤ cntOf kvs e := by
  unfold countsB at h
  have h2 := List.all_eq_true.mp (Bool.and_eq_true_iff.mp h).2 e he
  unfold itemB at h2
  unfold cntOf
  cases hv : valV kvs (.inr e) with
  | none => rw [hv] at h2; cases h2
  | some v =>
    rw [hv] at h2
    cases v with
    | int i => exact ⟨rfl, of_decide_eq_true h2⟩
    | _ => cases h2
def tieBad (c : Str → Int) (t : Str × Str × Int) : Prop := c t.1 + t.2.2 < c t.2.1
def capBad (c : Str → Int) (caps : List (Str × Int)) (e : Str) : Prop := ∃ q ∈ caps, q.1 = e ∧ q.2 < c e
/-- what barred tells -/
structure BarQ (d : PlanD) (c : Str → Int) (H : Hp) (Q : VK) : Prop where
  none : (∀ t ∈ d.ties, ¬ tieBad c t) → (∀ e ∈ d.evs, ¬ capBad c d.caps e) → ∀ H', Same H H' → Q .non H'
  tie : ∀ i t, d.ties[i]? = some t → tieBad c t → (∀ j < i, ∀ u, d.ties[j]? = some u → ¬ tieBad c u) → ∀ p H', Same H H' → H' p = some (.tup [.str "tie", .int (i : Nat)]) → Q (.ref p) H'
  cap : (∀ t ∈ d.ties, ¬ tieBad c t) → ∀ (j : Nat) (e : Str), d.evs[j]? = some e → capBad c d.caps e → (∀ k : Nat, k < j → ∀ u, d.evs[k]? = some u → ¬ capBad c d.caps u) → ∀ p H', Same H H' → H' p = some (.tup [.str "limit", .str e]) → Q (.ref p) H'
theorem capsV_some {cs : List (Str × Int)} {e : Str} (h : (valV (capsV cs) (.inr e)).isSome = true) : ∃ q ∈ cs, q.1 = e := by
  obtain ⟨v, hv⟩ := Option.isSome_iff_exists.mp h
  unfold valV at hv
  cases hf : (capsV cs).find? fun kv => decide (kv.1 = (.inr e : Key)) with
  | none => rw [hf] at hv; cases hv
  | some p =>
    have h1 : decide (p.1 = (.inr e : Key)) = true := List.find?_some (p := fun kv : Key × V => decide (kv.1 = (.inr e : Key))) hf
    have h2 := List.mem_of_find?_eq_some hf
    unfold capsV at h2
    obtain ⟨q, hq, rfl⟩ := List.mem_map.mp h2
    exact ⟨q, hq, Sum.inr.inj (of_decide_eq_true h1)⟩
def spBarred (K : PySem.W.Frag) (C CE CF : Addr) : Sp := fun vs H Q E => ∃ v y, vs = [v, y] ∧ Due K C CE CF v y H E fun _ d kvs => PlanOk d ∧ BarQ d (cntOf kvs) H Q
theorem ok_barred {C CE CF f : Addr} {fd : FuncData} (F : Fun K "barred" "barred" s_barred f fd) (T : Txt mg) (PI : PlanI K C) (cneed_counts : CalX P w K mg base 4 "need_counts" (spNeedCounts K C CE CF))
    (cTies : CalM P w K mg base 1 C "ties" (spPTies K C)) (cLimits : CalM P w K mg base 1 C "limits" (spPLimits K C)) (cEvents : CalM P w K mg base 1 C "events" (spPEvents K C)) :
    FnOk P w K mg base (L2.CX P w) 5 f fd ["plan", "counts"] (spBarred K C CE CF) := by
  have nd := sc_barred.nd
  refine F.okX sc_barred (fun vs H Q E h => ?_) (fun cdv A outer s H vs Q E hr h => ?_)
  · obtain ⟨_, _, rfl, _⟩ := h
    rfl
  · obtain ⟨v, y, rfl, h⟩ := h
    have hu : (A.deeper (envOfC "barred" (defScope s_barred) s.heap.objs.size f cdv)).units + 1 < cLine := by
      have := hr.units
      omega
    refine ⟨_, (pss_cons (ps_expr (pe_cX cneed_counts (takes_of rfl rfl rfl rfl) hr (by decide) rfl (pa_cons (pv 0) (pa_cons (pv 1) pa_nil))))
      (pss_cons (ps_for (passes_of rfl) rfl (pi_enum rfl T.m_enumerate (pa_cons (pe_m0' (pv 0) PI.cls cTies hr (by decide)) pa_nil)) (pg_tup rfl (pgs_cons (pg_name (i := 2) nd rfl (Or.inl rfl)) (pgs_cons (pg_tup rfl (pgs_cons (pg_name (i := 3) nd rfl (Or.inl rfl)) (pgs_cons (pg_name (i := 4) nd rfl (Or.inl rfl)) (pgs_cons (pg_name (i := 5) nd rfl (Or.inl rfl)) pgs_nil)))) pgs_nil)))
      (pss_one (ps_if (pt_cmpR op_gt (pe_dget hu (pv 1) (pv 4) (fun _ _ => rfl)) (pe_op oAdd (pe_dget hu (pv 1) (pv 3) (fun _ _ => rfl)) (pv 5)) (by rfl))
      (pss_one (ps_ret (pe_tup (pa_cons pe_str (pa_cons (pv 2) pa_nil))))) pss_nil)))
      (pss_cons (ps_set (i := 6) nd rfl (Or.inl rfl) (pe_m0' (pv 0) PI.cls cLimits hr (by decide)))
      (pss_cons (ps_for (passes_of rfl) rfl (pi_list (pe_m0' (pv 0) PI.cls cEvents hr (by decide))) (pg_name (i := 7) nd rfl (Or.inl rfl))
      (pss_one (ps_if (PW.pt (pw_and (pt_cmp (pc_din hu (pv 7) (pv 6)) (by rfl)) (pw_and1 (pt_cmpR op_gt (pe_dget hu (pv 1) (pv 7) (fun _ _ => rfl)) (pe_dget hu (pv 6) (pv 7) (fun _ _ => rfl)) (by rfl)))))
      (pss_one (ps_ret (pe_tup (pa_cons pe_str (pa_cons (pv 7) pa_nil))))) pss_nil)))
      (pss_one (ps_ret pe_non)))))), ?_⟩
    rcases h with ⟨hn, e⟩ | ⟨p, d, rfl, hp, hl, ⟨hn, e⟩ | ⟨kvs, hc, ok, B⟩⟩
    · exact ⟨_, rfl, _, rfl, v, y, rfl, .inl ⟨hn, e⟩⟩
    · exact ⟨_, rfl, _, rfl, _, y, rfl, .inr ⟨p, d, rfl, hp, hl, .inl ⟨hn, e⟩⟩⟩
    refine ⟨_, rfl, _, rfl, _, y, rfl, .inr ⟨p, d, rfl, hp, hl, .inr ⟨kvs, hc, fun H1 s1 => ?_⟩⟩⟩
    obtain ⟨cA, rfl, hcA, _, hcB⟩ := hc
    have hp1 := hp.same s1
    obtain ⟨dx, o, r, cc, ts0, h1, _⟩ := id hp1.ex
    refine ⟨_, rfl, p, dx, _, rfl, h1, rfl, p, d, rfl, hp1, fun l ts nl htl => ⟨l, _, rfl, .inl (.inl upd_same), ?_⟩⟩
    have hl1 : (upd H1 l (.lst (ts.map V.ref))) l = some (.lst (ts.map V.ref)) := upd_same
    have sl : Same H (upd H1 l (.lst (ts.map V.ref))) := Same.trans s1 (same_upd nl)
    have htl2 := htl.same (same_upd (o := .lst (ts.map V.ref)) nl)
    revert hl1 sl htl2
    generalize upd H1 l (.lst (ts.map V.ref)) = H2
    intro hl1 sl htl2
    clear htl nl h1 hp1 s1
    refine for_it (walk_enum (K := K) (a := l) (xs := ts.map V.ref)) (fun i σ H' => Same H2 H' ∧ (∀ j < i, ∀ u, d.ties[j]? = some u → ¬ tieBad (cntOf kvs) u) ∧ ∃ v2 v3 v4 v5, σ = [some (.ref p), some (.ref cA), v2, v3, v4, v5, none, none]) ⟨Same.refl _, fun j hj => absurd hj (Nat.not_lt_zero _), _, _, _, _, rfl⟩ (fun i σ H' _ p => .inl (.inl (p.1 _ _ hl1))) (fun i x σ H3 H4 hi pv yv => ?_) (fun σ H3 pv => ?_)
    · obtain ⟨s3, prev, v2, v3, v4, v5, rfl⟩ := pv
      obtain ⟨TT, u, z, rfl, nT, rfl, hu', hz⟩ := yv
      cases hu'
      obtain ⟨ct, t, rfl, hm, hg, hcell⟩ := (htl2.same s3).get hz
      have s4 : Same H2 (upd H3 TT (.tup [.int (i : Nat), .ref ct])) := Same.trans s3 (same_upd nT)
      have hcell' : (upd H3 TT (.tup [.int (i : Nat), .ref ct])) ct = some (.tup (rowV t)) := same_upd nT _ _ hcell
      have hcA' : (upd H3 TT (.tup [.int (i : Nat), .ref ct])) cA = some (.dK kvs) := Same.trans sl s4 _ _ hcA
      obtain ⟨i1, i2, _⟩ := ok.tin t hm
      have g1 := (cntOf_ok hcB i1).1
      have g2 := (cntOf_ok hcB i2).1
      refine ⟨TT, _, rfl, .inl (.inl upd_same), rfl, _, _, rfl, _, _, rfl, ct, _, rfl, .inl (.inl hcell'), rfl, _, _, rfl, _, _, rfl, _, _, rfl, rfl, rfl, ?_⟩
      refine ⟨_, rfl, _, rfl, cA, _, rfl, .inl ⟨kvs, .inr t.2.1, .inl hcA', rfl, g2.symm⟩, _, rfl, _, rfl, cA, _, rfl, .inl ⟨kvs, .inr t.1, .inl hcA', rfl, g1.symm⟩, _, rfl, .inl ⟨_, _, rfl, rfl, _, _, rfl, rfl, _, rfl, ite2 (fun e => ?_) (fun e => ?_)⟩⟩
      · have bad : tieBad (cntOf kvs) t := by
          have := of_decide_eq_true e
          unfold tieBad
          omega
        exact ⟨_, rfl, sz 2, fun q nq => B.tie i t hg bad prev q _ (Same.trans (Same.trans sl s4) (same_upd nq)) upd_same⟩
      · refine ⟨s4, fun j hj u hju => ?_, _, _, _, _, rfl⟩
        rcases Nat.lt_succ_iff_lt_or_eq.mp hj with h | h
        · exact prev j h u hju
        · subst h
          rw [hg] at hju
          cases hju
          intro bad
          exact e (decide_eq_true (by unfold tieBad at bad; omega))
    · obtain ⟨s3, prev, v2, v3, v4, v5, rfl⟩ := pv
      have noT : ∀ t ∈ d.ties, ¬ tieBad (cntOf kvs) t := by
        intro t ht
        obtain ⟨j, hj, e⟩ := List.getElem_of_mem ht
        have hlen : j < (ts.map V.ref).length := by
          rw [List.length_map, htl2.length]
          exact hj
        exact prev j hlen t (by rw [List.getElem?_eq_getElem hj, e])
      have t3 := Same.trans sl s3
      have hp3 := hp.same t3
      obtain ⟨dx, o, r, cc, ts0, h1, _⟩ := id hp3.ex
      refine ⟨_, rfl, p, dx, _, rfl, h1, rfl, p, d, rfl, hp3, fun m nm => ?_⟩
      have hm4 : (upd H3 m (.dK (capsV d.caps))) m = some (.dK (capsV d.caps)) := upd_same
      have t4 : Same H (upd H3 m (.dK (capsV d.caps))) := Same.trans t3 (same_upd nm)
      revert hm4 t4
      generalize upd H3 m (.dK (capsV d.caps)) = H4
      intro hm4 t4
      have hp4 := hp.same t4
      obtain ⟨dx4, o4, r4, cc4, ts4, h4, _⟩ := id hp4.ex
      refine ⟨_, rfl, p, dx4, _, rfl, h4, rfl, p, d, rfl, hp4, fun l2 nl2 => ⟨l2, rfl, ⟨_, .inl (.inl upd_same)⟩, ?_⟩⟩
      have hl5 : (upd H4 l2 (.lst (d.evs.map V.str))) l2 = some (.lst (d.evs.map V.str)) := upd_same
      have s45 : Same H4 (upd H4 l2 (.lst (d.evs.map V.str))) := same_upd nl2
      revert hl5 s45
      generalize upd H4 l2 (.lst (d.evs.map V.str)) = H5
      intro hl5 s45
      refine for_it (walk_list (K := K) (a := l2) (xs := d.evs.map V.str)) (fun i σ H' => H' = H5 ∧ (∀ k : Nat, k < i → ∀ u, d.evs[k]? = some u → ¬ capBad (cntOf kvs) d.caps u) ∧ ∃ v2 v3 v4 v5 v7, σ = [some (.ref p), some (.ref cA), v2, v3, v4, v5, some (.ref m), v7]) ⟨rfl, fun j hj => absurd hj (Nat.not_lt_zero _), _, _, _, _, _, rfl⟩ (fun i σ H' _ p => .inl (.inl (p.1 ▸ hl5))) (fun i x σ H6 H7 hi pv yv => ?_) (fun σ H6 pv => ?_)
      · obtain ⟨rfl, prev, w2, w3, w4, w5, w7, rfl⟩ := pv
        obtain ⟨rfl, hx⟩ := yv
        rw [List.length_map] at hi
        rw [List.getElem?_map, List.getElem?_eq_getElem hi] at hx
        cases hx
        have hmem := List.getElem_mem hi
        have hm5 := s45 _ _ hm4
        have hcA5 := s45 _ _ (t4 _ _ hcA)
        have g1 := (cntOf_ok hcB hmem).1
        have next : ¬ capBad (cntOf kvs) d.caps d.evs[i] → ∀ k : Nat, k < i + 1 → ∀ u, d.evs[k]? = some u → ¬ capBad (cntOf kvs) d.caps u := by
          intro nb k hk u hu2
          rcases Nat.lt_succ_iff_lt_or_eq.mp hk with h | h
          · exact prev k h u hu2
          · subst h
            rw [List.getElem?_eq_getElem hi] at hu2
            cases hu2
            exact nb
        refine ⟨_, rfl, _, rfl, m, _, rfl, .inl ⟨capsV d.caps, .inr d.evs[i], .inl hm5, rfl, rfl⟩, _, rfl, ite2 (fun e1 => ?_) (fun e1 => ?_)⟩
        · obtain ⟨q, hq, e2⟩ := capsV_some e1
          have hv := valV_mem ok.cnd hq
          rw [e2] at hv
          refine ⟨_, rfl, _, rfl, cA, _, rfl, .inl ⟨kvs, .inr d.evs[i], .inl hcA5, rfl, g1.symm⟩, _, rfl, _, rfl, m, _, rfl, .inl ⟨capsV d.caps, .inr d.evs[i], .inl hm5, rfl, hv.symm⟩, _, _, rfl, rfl, _, rfl, ite2 (fun e3 => ?_) (fun e3 => ?_)⟩
          · have bad : capBad (cntOf kvs) d.caps d.evs[i] := ⟨q, hq, e2, by have := of_decide_eq_true e3; omega⟩
            exact ⟨_, rfl, sz 2, fun z nz => B.cap noT i _ (List.getElem?_eq_getElem hi) bad prev z _ (Same.trans (Same.trans t4 s45) (same_upd nz)) upd_same⟩
          · refine ⟨rfl, next ?_, _, _, _, _, _, rfl⟩
            rintro ⟨q', hq', e4, l4⟩
            have hv' := valV_mem ok.cnd hq'
            rw [e4, hv] at hv'
            have e5 : q.2 = q'.2 := V.int.inj (Option.some.inj hv')
            exact e3 (decide_eq_true (by omega))
        · refine ⟨rfl, next ?_, _, _, _, _, _, rfl⟩
          rintro ⟨q', hq', e4, l4⟩
          have hv' := valV_mem ok.cnd hq'
          rw [e4] at hv'
          exact e1 (by rw [hv']; rfl)
      · obtain ⟨rfl, prev, w2, w3, w4, w5, w7, rfl⟩ := pv
        refine B.none noT (fun e he => ?_) _ (Same.trans t4 s45)
        obtain ⟨j, hj, e2⟩ := List.getElem_of_mem he
        exact prev j (by rw [List.length_map]; exact hj) e (by rw [List.getElem?_eq_getElem hj, e2])

end
end Pk

set_option Elab.async false
set_option linter.all false
set_option maxRecDepth 100000
set_option maxHeartbeats 4000000
namespace Pk
open PySem PySem.Spec PyProof.Rows L2 Pu
open PySem.Er (ErrTxt)
section
variable {P : Program} {w : World} {K : PySem.W.Frag} {mg : Str → Option Value} {base : Heap}
/-! ### moments -/
def capB (c : Str → Int) (caps : List (Str × Int)) (e : Str) : Bool := caps.any fun q => decide (q.1 = e) && decide (q.2 < c e)
def momB (d : PlanD) (c : Str → Int) : Bool := d.ties.all (fun t => !decide (c t.1 + t.2.2 < c t.2.1)) && d.evs.all fun e => !capB c d.caps e
theorem capB_iff {c : Str → Int} {caps : List (Str × Int)} {e : Str} : capB c caps e = true ↔ capBad c caps e := by
  unfold capB capBad
  rw [List.any_eq_true]
  constructor
  · rintro ⟨q, hq, h⟩
    rw [Bool.and_eq_true] at h
    exact ⟨q, hq, of_decide_eq_true h.1, of_decide_eq_true h.2⟩
  · rintro ⟨q, hq, h1, h2⟩
    exact ⟨q, hq, by rw [decide_eq_true h1, decide_eq_true h2]; rfl⟩
theorem momB_iff {d : PlanD} {c : Str → Int} : momB d c = true ↔ (∀ t ∈ d.ties, ¬ tieBad c t) ∧ ∀ e ∈ d.evs, ¬ capBad c d.caps e := by
  unfold momB
  rw [Bool.and_eq_true, List.all_eq_true, List.all_eq_true]
  constructor
  · rintro ⟨h1, h2⟩
    refine ⟨fun t ht hb => ?_, fun e he hb => ?_⟩
    · have := h1 t ht
      rw [show decide (c t.1 + t.2.2 < c t.2.1) = true from decide_eq_true hb] at this
      cases this
    · have := h2 e he
      rw [capB_iff.mpr hb] at this
      cases this
  · rintro ⟨h1, h2⟩
    refine ⟨fun t ht => ?_, fun e he => ?_⟩
    · rw [show decide (c t.1 + t.2.2 < c t.2.1) = false from decide_eq_false (h1 t ht)]
      rfl
    · cases hb : capB c d.caps e with
      | false => rfl
      | true => exact absurd (capB_iff.mp hb) (h2 e he)
theorem Due.mono {C CE CF : Addr} {v y : V} {H : Hp} {E : XK} {R R' : Addr → PlanD → List (Key × V) → Prop} (h : Due K C CE CF v y H E R) (f : ∀ p d kvs, v = .ref p → Counts d H y kvs → R p d kvs → R' p d kvs) : Due K C CE CF v y H E R' := by
  rcases h with h | ⟨p, d, e, hp, hl, h | ⟨kvs, hc, r⟩⟩
  · exact .inl h
  · exact .inr ⟨p, d, e, hp, hl, .inl h⟩
  · exact .inr ⟨p, d, e, hp, hl, .inr ⟨kvs, hc, f p d kvs e hc r⟩⟩
def spIsMoment (K : PySem.W.Frag) (C CE CF : Addr) : Sp := fun vs H Q E => ∃ v y, vs = [v, y] ∧ Due K C CE CF v y H E fun _ d kvs => PlanOk d ∧ ∀ H', Same H H' → Q (.bl (momB d (cntOf kvs))) H'
theorem ok_is_moment {C CE CF f : Addr} {fd : FuncData} (F : Fun K "is_moment" "is_moment" s_is_moment f fd) (T : Txt mg) (cbarred : CalX P w K mg base 5 "barred" (spBarred K C CE CF)) : FnOk P w K mg base (L2.CX P w) 6 f fd ["plan", "counts"] (spIsMoment K C CE CF) := by
  have nd := sc_is_moment.nd
  refine F.okX sc_is_moment (fun vs H Q E h => ?_) (fun cdv A outer s H vs Q E hr h => ?_)
  · obtain ⟨_, _, rfl, _⟩ := h
    rfl
  · obtain ⟨v, y, rfl, h⟩ := h
    refine ⟨_, (pss_one (ps_ret (pe_cmpR op_isN (pe_cX cbarred (takes_of rfl rfl rfl rfl) hr (by decide) rfl (pa_cons (pv 0) (pa_cons (pv 1) pa_nil))) pe_non (by rfl)))), ?_⟩
    refine ⟨_, rfl, _, rfl, v, y, rfl, h.mono fun p d kvs _ _ r => ⟨r.1, ⟨fun n1 n2 H' s => ⟨rfl, ?_⟩, fun i t hi hb _ p H' s _ => ⟨rfl, ?_⟩, fun _ j e hj hb _ p H' s _ => ⟨rfl, ?_⟩⟩⟩⟩
    · have := r.2 H' s
      rw [momB_iff.mpr ⟨n1, n2⟩] at this
      rw [decide_eq_true rfl]
      exact this
    · have := r.2 H' s
      have hb2 : momB d (cntOf kvs) = false := by
        cases z : momB d (cntOf kvs) with
        | false => rfl
        | true => exact absurd hb ((momB_iff.mp z).1 t (List.mem_of_getElem? hi))
      rw [hb2] at this
      rw [decide_eq_false (fun z => nomatch z)]
      exact this
    · have := r.2 H' s
      have hb2 : momB d (cntOf kvs) = false := by
        cases z : momB d (cntOf kvs) with
        | false => rfl
        | true => exact absurd hb ((momB_iff.mp z).2 e (List.mem_of_getElem? hj))
      rw [hb2] at this
      rw [decide_eq_false (fun z => nomatch z)]
      exact this
def spNeedMoment (K : PySem.W.Frag) (C CE CF CN : Addr) : Sp := fun vs H Q E => ∃ v y, vs = [v, y] ∧ Due K C CE CF v y H E fun _ d kvs => PlanOk d ∧ (momB d (cntOf kvs) = true → ∀ H', Same H H' → Q .non H') ∧ (momB d (cntOf kvs) = false → ∀ H', Same H H' → Out CN "value" y E H')
theorem ok_need_moment {C CE CF CN fN f : Addr} {fd : FuncData} (F : Fun K "need_moment" "need_moment" s_need_moment f fd) (T : Txt mg) (cis_moment : CalX P w K mg base 6 "is_moment" (spIsMoment K C CE CF)) (e_NotMoment : ErrTxt K mg "NotMoment" "value" CN fN) :
    FnOk P w K mg base (L2.CX P w) 7 f fd ["plan", "counts"] (spNeedMoment K C CE CF CN) := by
  have nd := sc_need_moment.nd
  refine F.okX sc_need_moment (fun vs H Q E h => ?_) (fun cdv A outer s H vs Q E hr h => ?_)
  · obtain ⟨_, _, rfl, _⟩ := h
    rfl
  · obtain ⟨v, y, rfl, h⟩ := h
    refine ⟨_, (pss_one (ps_if (pt_not (pt_val (pe_cX cis_moment (takes_of rfl rfl rfl rfl) hr (by decide) rfl (pa_cons (pv 0) (pa_cons (pv 1) pa_nil)))))
      (pss_one (ps_raiseE rfl e_NotMoment hr (takes_of rfl rfl rfl rfl) (pa_cons (pv 1) pa_nil) rfl)) pss_nil)), ?_⟩
    refine ⟨_, rfl, _, rfl, v, y, rfl, h.mono fun p d kvs _ _ r => ⟨r.1, fun H' s => ⟨_, rfl, ?_⟩⟩⟩
    cases z : momB d (cntOf kvs) with
    | true => exact r.2.1 z _ s
    | false => exact ⟨_, rfl, _, rfl, r.2.2 z _ s⟩

end
end Pk

set_option Elab.async false
set_option linter.all false
set_option maxRecDepth 100000
set_option maxHeartbeats 4000000
namespace Pk
open PySem PySem.Spec PyProof.Rows L2 Pu
open PySem.Er (ErrTxt)
abbrev s_stepped : Stmt := topS 47
theorem sc_stepped : FnScope ["counts", "event", "step"] ["counts", "event", "step"] (defScope s_stepped) := ⟨rfl, rfl, rfl, by decide +kernel, rfl, by decide +kernel, by decide +kernel⟩

section
variable {P : Program} {w : World} {K : PySem.W.Frag} {mg : Str → Option Value} {base : Heap}
/-! ### stepped -/
def stepK (kvs : List (Key × V)) (e : Str) (n : Int) : List (Key × V) := putK (mergeK [] kvs) (.inr e) (.int (cntOf kvs e + n))
def spStepped (K : PySem.W.Frag) : Sp := fun vs H Q _ => ∃ (c : Addr) (e : Str) (n : Int) (kvs : List (Key × V)), vs = [.ref c, .str e, .int n] ∧ H c = some (.dK kvs) ∧ kvs.length ≤ 1000 ∧ valV kvs (.inr e) = some (.int (cntOf kvs e)) ∧ ∀ q H', Same H H' → H' q = some (.dK (stepK kvs e n)) → Q (.ref q) H'
theorem ok_stepped {f : Addr} {fd : FuncData} (F : Fun K "stepped" "stepped" s_stepped f fd) (T : Txt mg) : FnOk P w K mg base CX0 1 f fd ["counts", "event", "step"] (spStepped K) := by
  have nd := sc_stepped.nd
  refine F.ok sc_stepped (fun vs H Q E h => ?_) (fun cdv A outer s H vs Q E hr h => ?_)
  · obtain ⟨_, _, _, _, rfl, _⟩ := h
    rfl
  · obtain ⟨c, e, n, kvs, rfl, hc, hl, hv, q⟩ := h
    have hu : (A.deeper (envOfC "stepped" (defScope s_stepped) s.heap.objs.size f cdv)).units + 1 < cLine := by
      have := hr.units
      omega
    refine ⟨_, (pss_one (ps_ret (pe_take (pv 0) (pv 1) (pe_op oAdd (pe_dget hu (pv 0) (pv 1) (fun _ _ => rfl)) (pv 2))))), ?_⟩
    refine fun p np => ?_
    have hcp := ne_of_none hc np
    have hc1 : (upd H p (.dK [])) c = some (.dK kvs) := by
      rw [upd_ne hcp]
      exact hc
    refine ⟨_, rfl, c, kvs, rfl, hcp, hc1, upd_same, hl, fun r nr => ?_⟩
    have hrp : r ≠ p := fun z => by
      rw [z, upd_same] at nr
      cases nr
    have hcr : c ≠ r := fun z => by
      rw [← z, upd_ne hcp, hc1] at nr
      cases nr
    have nr0 : H r = none := by
      rw [upd_ne hrp, upd_ne hrp] at nr
      exact nr
    have hc2 : (upd (upd (upd H p (.dK [])) p (.dK (mergeK [] kvs))) r (.dK [])) c = some (.dK kvs) := by
      rw [upd_ne hcr, upd_ne hcp]
      exact hc1
    refine ⟨_, rfl, _, rfl, _, rfl, c, _, rfl, .inl ⟨kvs, .inr e, .inl hc2, rfl, hv.symm⟩, _, rfl, .inl ⟨_, _, rfl, rfl, .inr e, rfl, ?_, upd_same, q p _ (fun b o hb => ?_) upd_same⟩⟩
    · rw [upd_ne (Ne.symm hrp), upd_same]
    · rw [upd_ne (ne_of_none hb np), upd_ne (ne_of_none hb nr0), upd_ne (ne_of_none hb nr0), upd_ne (ne_of_none hb np), upd_ne (ne_of_none hb np)]
      exact hb
/-! ### what a step does to counts -/
theorem valV_none {kvs : List (Key × V)} {k : Key} (h : ∀ p ∈ kvs, p.1 ≠ k) : valV kvs k = none := by
  unfold valV
  rw [List.find?_eq_none.mpr fun p hp => by rw [decide_eq_false (h p hp)]; decide]
  rfl
theorem merge_self : ∀ (kvs acc : List (Key × V)), ((acc ++ kvs).map (·.1)).Nodup → mergeK acc kvs = acc ++ kvs
  | [], acc, _ => (List.append_nil acc).symm
  | kv :: r, acc, h => by
    have h1 : ∀ p ∈ acc, p.1 ≠ kv.1 := by
      intro p hp e
      rw [List.map_append, List.nodup_append] at h
      exact h.2.2 p.1 (List.mem_map_of_mem hp) kv.1 (List.mem_map_of_mem (List.mem_cons_self ..)) e
    have h2 : putK acc kv.1 kv.2 = acc ++ [kv] := putK_new kv.2 (valV_none h1)
    show mergeK (putK acc kv.1 kv.2) r = _
    rw [h2, merge_self r (acc ++ [kv]) (by rw [List.append_assoc]; exact h), List.append_assoc]
    rfl
theorem stepK_eq {kvs : List (Key × V)} {e : Str} {n : Int} (hn : (kvs.map (·.1)).Nodup) : stepK kvs e n = putK kvs (.inr e) (.int (cntOf kvs e + n)) := by
  unfold stepK
  rw [merge_self kvs [] hn, List.nil_append]
theorem putK_there {kvs : List (Key × V)} {k : Key} {v v0 : V} (h : valV kvs k = some v0) : putK kvs k v = kvs.map fun kv => if kv.1 = k then (kv.1, v) else kv := by
  unfold putK
  rw [if_pos ?_]
  unfold valV at h
  cases hf : kvs.find? fun kv => decide (kv.1 = k) with
  | none => rw [hf] at h; cases h
  | some p =>
    rw [List.any_eq_true]
    exact ⟨p, List.mem_of_find?_eq_some hf, List.find?_some (p := fun kv : Key × V => decide (kv.1 = k)) hf⟩
theorem putK_keys {kvs : List (Key × V)} {k : Key} {v v0 : V} (h : valV kvs k = some v0) : (putK kvs k v).map (·.1) = kvs.map (·.1) := by
  rw [putK_there h, List.map_map]
  refine List.map_congr_left fun p _ => ?_
  show (if p.1 = k then (p.1, v) else p).1 = p.1
  split <;> rfl
theorem step_cnt {kvs : List (Key × V)} {e x : Str} {n : Int} (hn : (kvs.map (·.1)).Nodup) : valV (stepK kvs e n) (.inr x) = if x = e then some (.int (cntOf kvs e + n)) else valV kvs (.inr x) := by
  rw [stepK_eq hn, valV_put]
  by_cases h : x = e
  · rw [if_pos h, if_pos (by rw [h])]
  · rw [if_neg h, if_neg (fun z => h (Sum.inr.inj z))]
theorem step_counts {es : List Str} {kvs : List (Key × V)} {e : Str} {n : Int} (hn : (kvs.map (·.1)).Nodup) (hc : countsB es kvs = true) (he : e ∈ es) (h0 : 0 ≤ cntOf kvs e + n) :
    countsB es (stepK kvs e n) = true ∧ ((stepK kvs e n).map (·.1)).Nodup ∧ ∀ x, cntOf (stepK kvs e n) x = if x = e then cntOf kvs e + n else cntOf kvs x := by
  have hv := (cntOf_ok hc he).1
  have hk : (stepK kvs e n).map (·.1) = kvs.map (·.1) := by
    rw [stepK_eq hn]
    exact putK_keys hv
  refine ⟨?_, by rw [hk]; exact hn, fun x => ?_⟩
  · unfold countsB at *
    rw [Bool.and_eq_true, List.all_eq_true] at *
    refine ⟨?_, fun x hx => ?_⟩
    · have hl : (stepK kvs e n).length = kvs.length := by
        rw [← List.length_map (f := (·.1)) (as := stepK kvs e n), hk, List.length_map]
      rw [hl]
      exact hc.1
    · unfold itemB
      rw [step_cnt hn]
      by_cases h : x = e
      · rw [if_pos h]
        exact decide_eq_true h0
      · rw [if_neg h]
        exact hc.2 x hx
  · unfold cntOf
    rw [step_cnt hn]
    by_cases h : x = e
    · rw [if_pos h, if_pos h]
      rfl
    · rw [if_neg h, if_neg h]

end
end Pk

set_option Elab.async false
set_option linter.all false
set_option maxRecDepth 100000
set_option maxHeartbeats 4000000
namespace Pk
open PySem PySem.Spec PyProof.Rows L2 Pu
open PySem.Er (ErrTxt)
abbrev s_come : Stmt := topS 48
theorem sc_come : FnScope ["plan", "counts", "event"] ["plan", "counts"] (defScope s_come) := ⟨rfl, rfl, rfl, by decide +kernel, rfl, by decide +kernel, by decide +kernel⟩
abbrev s_came : Stmt := topS 49
theorem sc_came : FnScope ["plan", "counts", "there", "event"] ["plan", "counts"] (defScope s_came) := ⟨rfl, rfl, rfl, by decide +kernel, rfl, by decide +kernel, by decide +kernel⟩

section
variable {P : Program} {w : World} {K : PySem.W.Frag} {mg : Str → Option Value} {base : Heap}
/-! ### come -/
def upC (c : Str → Int) (e : Str) (n : Int) : Str → Int := fun x => if x = e then c e + n else c x
theorem step_flat {kvs : List (Key × V)} {e : Str} {n : Int} (hn : (kvs.map (·.1)).Nodup) (hv : valV kvs (.inr e) = some (.int (cntOf kvs e))) (hf : ∀ p ∈ kvs, flat4 p.2 = true) : ∀ p ∈ stepK kvs e n, flat4 p.2 = true := by
  intro p hp
  rw [stepK_eq hn, putK_there hv] at hp
  obtain ⟨q, hq, rfl⟩ := List.mem_map.mp hp
  split
  · rfl
  · exact hf q hq
/-- stepped counts of a plan -/
theorem step_ok {d : PlanD} {H : Hp} {q : Addr} {kvs : List (Key × V)} {e : Str} {n : Int} (hn : (kvs.map (·.1)).Nodup) (hf : ∀ p ∈ kvs, flat4 p.2 = true) (hc : countsB d.evs kvs = true) (he : e ∈ d.evs) (h0 : 0 ≤ cntOf kvs e + n) (hq : H q = some (.dK (stepK kvs e n))) :
    Counts d H (.ref q) (stepK kvs e n) ∧ cntOf (stepK kvs e n) = upC (cntOf kvs) e n := by
  obtain ⟨h1, h2, h3⟩ := step_counts (n := n) hn hc he h0
  exact ⟨⟨q, rfl, hq, step_flat hn (cntOf_ok hc he).1 hf, h1⟩, funext h3⟩
def spCome (K : PySem.W.Frag) (C CE CF CN : Addr) : Sp := fun vs H Q E => ∃ v y, vs = [v, y] ∧ Due K C CE CF v y H E fun _ d kvs => PlanOk d ∧ (kvs.map (·.1)).Nodup ∧ (momB d (cntOf kvs) = false → ∀ H', Same H H' → Out CN "value" y E H') ∧
  (momB d (cntOf kvs) = true → ∀ q H', Same H H' → H' q = some (.lst ((d.evs.filter fun e => momB d (upC (cntOf kvs) e 1)).map V.str)) → Q (.ref q) H')
theorem ok_come {C CE CF CN f : Addr} {fd : FuncData} (F : Fun K "come" "come" s_come f fd) (T : Txt mg) (PI : PlanI K C) (cneed_moment : CalX P w K mg base 7 "need_moment" (spNeedMoment K C CE CF CN)) (cis_moment : CalX P w K mg base 6 "is_moment" (spIsMoment K C CE CF)) (cstepped : Cal P w K mg base 1 "stepped" (spStepped K) [])
    (cEvents : CalM P w K mg base 1 C "events" (spPEvents K C)) : FnOk P w K mg base (L2.CX P w) 8 f fd ["plan", "counts"] (spCome K C CE CF CN) := by
  have nd := sc_come.nd
  refine F.okX sc_come (fun vs H Q E h => ?_) (fun cdv A outer s H vs Q E hr h => ?_)
  · obtain ⟨_, _, rfl, _⟩ := h
    rfl
  · obtain ⟨v, y, rfl, h⟩ := h
    refine ⟨_, (pss_cons (ps_expr (pe_cX cneed_moment (takes_of rfl rfl rfl rfl) hr (by decide) rfl (pa_cons (pv 0) (pa_cons (pv 1) pa_nil))))
      (pss_one (ps_ret (pe_lc (own := [("event", 2)]) (g := gName 2) rfl nd (pi_list (pe_m0' (pv 0) PI.cls cEvents hr (by decide))) (blkOk_by (N := ["plan", "counts", "event"]) (sc := defScope s_come) (by decide +kernel)) (fun _ _ _ _ _ => pg_name (i := 2) nd rfl (Or.inl rfl)) (fun _ _ _ _ _ => pts_one (pt_val (pe_cX0 cis_moment hr (by decide) rfl (pa_cons (pv 0) (pa_cons (pe_c cstepped hr (by decide) rfl (pa_cons (pv 1) (pa_cons (pv 2) (pa_cons pe_int pa_nil)))) pa_nil))))) (fun _ _ _ _ _ => (pv 2)))))), ?_⟩
    rcases h with ⟨hn, e⟩ | ⟨p, d, rfl, hp, hl, ⟨hn, e⟩ | ⟨kvs, hc, ok, hnd, q0, q1⟩⟩
    · exact ⟨_, rfl, _, rfl, v, y, rfl, .inl ⟨hn, e⟩⟩
    · exact ⟨_, rfl, _, rfl, _, y, rfl, .inr ⟨p, d, rfl, hp, hl, .inl ⟨hn, e⟩⟩⟩
    refine ⟨_, rfl, _, rfl, _, y, rfl, .inr ⟨p, d, rfl, hp, hl, .inr ⟨kvs, hc, ok, fun z H1 s1 => ?_, q0⟩⟩⟩
    have q2 := q1 z
    obtain ⟨cA, rfl, hcA, hcF, hcB⟩ := hc
    have hlen : kvs.length ≤ 1000 := by
      have h1 := hcB
      unfold countsB at h1
      have h2 := of_decide_eq_true (Bool.and_eq_true_iff.mp h1).1
      omega
    have hp1 := hp.same s1
    obtain ⟨dx, o, r, cc, ts0, h1, _⟩ := id hp1.ex
    refine ⟨_, rfl, p, dx, _, rfl, h1, rfl, p, d, rfl, hp1, fun l nl => ⟨l, rfl, ⟨_, .inl (.inl upd_same)⟩, fun D hD => ?_⟩⟩
    have hl1 : (upd H1 l (.lst (d.evs.map V.str))) l = some (.lst (d.evs.map V.str)) := upd_same
    have sl : Same H (upd H1 l (.lst (d.evs.map V.str))) := Same.trans s1 (same_upd nl)
    revert hD hl1 sl
    generalize upd H1 l (.lst (d.evs.map V.str)) = H2
    intro hD hl1 sl
    refine lc_it (walk_list (K := K) (a := l) (xs := d.evs.map V.str)) (fun i H' => Same H2 H' ∧ H' D = some (.lst (((d.evs.take i).filter fun e => momB d (upC (cntOf kvs) e 1)).map V.str))) ⟨same_upd hD, upd_same⟩ (fun i H' _ p => .inl (.inl (p.1 _ _ hl1))) (fun i x H3 H4 hi pv yv => ?_) (fun H3 pv => ?_)
    · obtain ⟨rfl, hx⟩ := yv
      rw [List.length_map] at hi
      rw [List.getElem?_map, List.getElem?_eq_getElem hi] at hx
      cases hx
      have hm := List.getElem_mem hi
      obtain ⟨g1, g2⟩ := cntOf_ok hcB hm
      have s3 := Same.trans sl pv.1
      refine ⟨rfl, _, rfl, _, rfl, _, rfl, cA, d.evs[i], 1, kvs, rfl, s3 _ _ hcA, hlen, g1, fun q H5 s5 hq => ?_⟩
      obtain ⟨cs, ce⟩ := step_ok hnd hcF hcB hm (n := 1) (by omega) hq
      have s35 := Same.trans s3 s5
      refine ⟨_, _, rfl, .inr ⟨p, d, rfl, hp.same s35, hl, .inr ⟨_, cs, ok, fun H6 s6 => ⟨_, rfl, ?_⟩⟩⟩⟩
      rw [ce]
      have hD6 := s6 _ _ (s5 _ _ pv.2)
      have s26 := Same.trans pv.1 (Same.trans s5 s6)
      cases hb : momB d (upC (cntOf kvs) d.evs[i] 1) with
      | true =>
        refine ⟨_, rfl, _, hD6, ?_, fun b o hb2 => ?_, ?_⟩
        · rw [List.length_map]
          refine Nat.lt_of_le_of_lt (List.length_filter_le _ _) ?_
          rw [List.length_take]
          exact Nat.lt_of_le_of_lt (Nat.min_le_right _ _) (Nat.lt_of_lt_of_le (by omega) (sz 100))
        · rw [upd_ne (ne_of_none hb2 hD)]
          exact s26 _ _ hb2
        · rw [upd_same, List.take_add_one, List.getElem?_eq_getElem hi, List.filter_append, List.map_append]
          show some (HO.lst (_ ++ [V.str d.evs[i]])) = some (.lst (_ ++ (List.filter _ [d.evs[i]]).map V.str))
          rw [List.filter_cons, if_pos hb]
          rfl
      | false =>
        refine ⟨s26, ?_⟩
        rw [List.take_add_one, List.getElem?_eq_getElem hi, List.filter_append]
        show H6 D = some (.lst ((_ ++ List.filter _ [d.evs[i]]).map V.str))
        rw [List.filter_cons, if_neg (by rw [hb]; decide), List.filter_nil, List.append_nil]
        exact hD6
    · refine q2 D H3 (Same.trans sl pv.1) ?_
      rw [pv.2, List.length_map, List.take_length]
def spCame (K : PySem.W.Frag) (C CE CF CN : Addr) : Sp := fun vs H Q E => ∃ v y, vs = [v, y] ∧ Due K C CE CF v y H E fun _ d kvs => PlanOk d ∧ (kvs.map (·.1)).Nodup ∧ (momB d (cntOf kvs) = false → ∀ H', Same H H' → Out CN "value" y E H') ∧
  (momB d (cntOf kvs) = true → ∀ q H', Same H H' → H' q = some (.lst (((d.evs.filter fun e => decide (0 < cntOf kvs e)).filter fun e => momB d (upC (cntOf kvs) e (-1))).map V.str)) → Q (.ref q) H')
theorem ok_came {C CE CF CN f : Addr} {fd : FuncData} (F : Fun K "came" "came" s_came f fd) (T : Txt mg) (PI : PlanI K C) (cneed_moment : CalX P w K mg base 7 "need_moment" (spNeedMoment K C CE CF CN)) (cis_moment : CalX P w K mg base 6 "is_moment" (spIsMoment K C CE CF)) (cstepped : Cal P w K mg base 1 "stepped" (spStepped K) [])
    (cEvents : CalM P w K mg base 1 C "events" (spPEvents K C)) : FnOk P w K mg base (L2.CX P w) 8 f fd ["plan", "counts"] (spCame K C CE CF CN) := by
  have nd := sc_came.nd
  refine F.okX sc_came (fun vs H Q E h => ?_) (fun cdv A outer s H vs Q E hr h => ?_)
  · obtain ⟨_, _, rfl, _⟩ := h
    rfl
  · obtain ⟨v, y, rfl, h⟩ := h
    have hu : (A.deeper (envOfC "came" (defScope s_came) s.heap.objs.size f cdv)).units + 1 < cLine := by
      have := hr.units
      omega
    refine ⟨_, (pss_cons (ps_expr (pe_cX cneed_moment (takes_of rfl rfl rfl rfl) hr (by decide) rfl (pa_cons (pv 0) (pa_cons (pv 1) pa_nil))))
      (pss_cons (ps_setLc (i := 2) (y := "there") (own := [("event", 3)]) (g := gName 3) rfl nd rfl rfl (sw_true rfl rfl rfl (by decide +kernel)) (pi_list (pe_m0' (pv 0) PI.cls cEvents hr (by decide))) (blkOk_by (N := ["plan", "counts", "there", "event"]) (sc := defScope s_came) (by decide +kernel)) (fun _ _ _ _ _ => pg_name (i := 3) nd rfl (Or.inl rfl)) (fun _ _ _ _ _ => pts_one (pt_cmpR op_gt (pe_dget hu (pv 1) (pv 3) (fun _ _ => rfl)) pe_int (by rfl))) (fun _ _ _ _ _ => (pv 3)))
      (pss_one (ps_ret (pe_lc (own := [("event", 3)]) (g := gName 3) rfl nd (pi_list (pv 2)) (blkOk_by (N := ["plan", "counts", "there", "event"]) (sc := defScope s_came) (by decide +kernel)) (fun _ _ _ _ _ => pg_name (i := 3) nd rfl (Or.inl rfl)) (fun _ _ _ _ _ => pts_one (pt_val (pe_cX0 cis_moment hr (by decide) rfl (pa_cons (pv 0) (pa_cons (pe_c cstepped hr (by decide) rfl (pa_cons (pv 1) (pa_cons (pv 3) (pa_cons (pe_un un_neg pe_int) pa_nil)))) pa_nil))))) (fun _ _ _ _ _ => (pv 3))))))), ?_⟩
    rcases h with ⟨hn, e⟩ | ⟨p, d, rfl, hp, hl, ⟨hn, e⟩ | ⟨kvs, hc, ok, hnd, q0, q1⟩⟩
    · exact ⟨_, rfl, _, rfl, v, y, rfl, .inl ⟨hn, e⟩⟩
    · exact ⟨_, rfl, _, rfl, _, y, rfl, .inr ⟨p, d, rfl, hp, hl, .inl ⟨hn, e⟩⟩⟩
    refine ⟨_, rfl, _, rfl, _, y, rfl, .inr ⟨p, d, rfl, hp, hl, .inr ⟨kvs, hc, ok, fun z H1 s1 => ?_, q0⟩⟩⟩
    have q2 := q1 z
    obtain ⟨cA, rfl, hcA, hcF, hcB⟩ := hc
    have hlen : kvs.length ≤ 1000 := by
      have h1 := hcB
      unfold countsB at h1
      have h2 := of_decide_eq_true (Bool.and_eq_true_iff.mp h1).1
      omega
    have hp1 := hp.same s1
    obtain ⟨dx, o, r, cc, ts0, h1, _⟩ := id hp1.ex
    refine ⟨_, rfl, p, dx, _, rfl, h1, rfl, p, d, rfl, hp1, fun l nl => ⟨l, rfl, ⟨_, .inl (.inl upd_same)⟩, fun D hD => ?_⟩⟩
    have hl1 : (upd H1 l (.lst (d.evs.map V.str))) l = some (.lst (d.evs.map V.str)) := upd_same
    have sl : Same H (upd H1 l (.lst (d.evs.map V.str))) := Same.trans s1 (same_upd nl)
    revert hD hl1 sl
    generalize upd H1 l (.lst (d.evs.map V.str)) = H2
    intro hD hl1 sl
    refine lc_it (walk_list (K := K) (a := l) (xs := d.evs.map V.str)) (fun i H' => Same H2 H' ∧ H' D = some (.lst (((d.evs.take i).filter fun e => decide (0 < cntOf kvs e)).map V.str))) ⟨same_upd hD, upd_same⟩ (fun i H' _ p => .inl (.inl (p.1 _ _ hl1))) (fun i x H3 H4 hi pv yv => ?_) (fun H3 pv => ?_)
    · obtain ⟨rfl, hx⟩ := yv
      rw [List.length_map] at hi
      rw [List.getElem?_map, List.getElem?_eq_getElem hi] at hx
      cases hx
      have hm := List.getElem_mem hi
      obtain ⟨g1, g2⟩ := cntOf_ok hcB hm
      have s3 := Same.trans sl pv.1
      refine ⟨rfl, _, rfl, _, rfl, cA, _, rfl, .inl ⟨kvs, .inr d.evs[i], .inl (s3 _ _ hcA), rfl, g1.symm⟩, _, _, rfl, rfl, _, rfl, ?_⟩
      cases hb : decide (0 < cntOf kvs d.evs[i]) with
      | true =>
        refine ⟨_, rfl, _, pv.2, ?_, fun b o hb2 => ?_, ?_⟩
        · rw [List.length_map]
          refine Nat.lt_of_le_of_lt (List.length_filter_le _ _) ?_
          rw [List.length_take]
          exact Nat.lt_of_le_of_lt (Nat.min_le_right _ _) (Nat.lt_of_lt_of_le (by omega) (sz 100))
        · rw [upd_ne (ne_of_none hb2 hD)]
          exact pv.1 _ _ hb2
        · rw [upd_same, List.take_add_one, List.getElem?_eq_getElem hi, List.filter_append, List.map_append]
          show some (HO.lst (_ ++ [V.str d.evs[i]])) = some (.lst (_ ++ (List.filter _ [d.evs[i]]).map V.str))
          rw [List.filter_cons, if_pos hb]
          rfl
      | false =>
        refine ⟨pv.1, ?_⟩
        rw [List.take_add_one, List.getElem?_eq_getElem hi, List.filter_append]
        show _ = some (HO.lst ((_ ++ List.filter _ [d.evs[i]]).map V.str))
        rw [List.filter_cons, if_neg (by rw [hb]; decide), List.filter_nil, List.append_nil]
        exact pv.2
    · obtain ⟨sv, hD3⟩ := pv
      rw [List.length_map, List.take_length] at hD3
      have s03 := Same.trans sl sv
      clear hl1 sl sv z
      have hmem : ∀ e ∈ d.evs.filter (fun e => decide (0 < cntOf kvs e)), e ∈ d.evs ∧ 0 < cntOf kvs e := fun e he => ⟨(List.mem_filter.mp he).1, of_decide_eq_true (List.mem_filter.mp he).2⟩
      have hl8 : (d.evs.filter (fun e => decide (0 < cntOf kvs e))).length ≤ 8 := Nat.le_trans (List.length_filter_le _ _) hl
      revert q2 hD3 hmem hl8
      generalize d.evs.filter (fun e => decide (0 < cntOf kvs e)) = ys
      intro q2 hD3 hmem hl8
      refine ⟨_, rfl, D, rfl, ⟨_, .inl (.inl hD3)⟩, fun D2 hD2 => ?_⟩
      refine lc_it (walk_list (K := K) (a := D) (xs := ys.map V.str)) (fun i H' => Same H3 H' ∧ H' D2 = some (.lst (((ys.take i).filter fun e => momB d (upC (cntOf kvs) e (-1))).map V.str))) ⟨same_upd hD2, upd_same⟩ (fun i H' _ p => .inl (.inl (p.1 _ _ hD3))) (fun i x H4 H5 hi pv yv => ?_) (fun H4 pv => ?_)
      · obtain ⟨rfl, hx⟩ := yv
        rw [List.length_map] at hi
        rw [List.getElem?_map, List.getElem?_eq_getElem hi] at hx
        cases hx
        obtain ⟨hm, hpos⟩ := hmem _ (List.getElem_mem hi)
        obtain ⟨g1, g2⟩ := cntOf_ok hcB hm
        have s3 := Same.trans s03 pv.1
        refine ⟨rfl, _, rfl, _, rfl, _, rfl, _, rfl, cA, ys[i], -1, kvs, rfl, s3 _ _ hcA, hlen, g1, fun q H5 s5 hq => ?_⟩
        obtain ⟨cs, ce⟩ := step_ok hnd hcF hcB hm (n := -1) (by omega) hq
        have s35 := Same.trans s3 s5
        refine ⟨_, _, rfl, .inr ⟨p, d, rfl, hp.same s35, hl, .inr ⟨_, cs, ok, fun H6 s6 => ⟨_, rfl, ?_⟩⟩⟩⟩
        rw [ce]
        have hD6 := s6 _ _ (s5 _ _ pv.2)
        have s26 := Same.trans pv.1 (Same.trans s5 s6)
        cases hb : momB d (upC (cntOf kvs) ys[i] (-1)) with
        | true =>
          refine ⟨_, rfl, _, hD6, ?_, fun b o hb2 => ?_, ?_⟩
          · rw [List.length_map]
            refine Nat.lt_of_le_of_lt (List.length_filter_le _ _) ?_
            rw [List.length_take]
            exact Nat.lt_of_le_of_lt (Nat.min_le_right _ _) (Nat.lt_of_lt_of_le (by omega) (sz 100))
          · rw [upd_ne (ne_of_none hb2 hD2)]
            exact s26 _ _ hb2
          · rw [upd_same, List.take_add_one, List.getElem?_eq_getElem hi, List.filter_append, List.map_append]
            show some (HO.lst (_ ++ [V.str ys[i]])) = some (.lst (_ ++ (List.filter _ [ys[i]]).map V.str))
            rw [List.filter_cons, if_pos hb]
            rfl
        | false =>
          refine ⟨s26, ?_⟩
          rw [List.take_add_one, List.getElem?_eq_getElem hi, List.filter_append]
          show H6 D2 = some (.lst ((_ ++ List.filter _ [ys[i]]).map V.str))
          rw [List.filter_cons, if_neg (by rw [hb]; decide), List.filter_nil, List.append_nil]
          exact hD6
      · refine q2 D2 H4 (Same.trans s03 pv.1) ?_
        rw [pv.2, List.length_map, List.take_length]

end
end Pk

set_option Elab.async false
set_option linter.all false
set_option maxRecDepth 100000
set_option maxHeartbeats 4000000
namespace Pk
open PySem PySem.Spec PyProof.Rows L2 Pu
open PySem.Er (ErrTxt)
abbrev s_need_two_counts : Stmt := topS 58
theorem sc_need_two_counts : FnScope ["plan", "one", "other"] ["plan", "one", "other"] (defScope s_need_two_counts) := ⟨rfl, rfl, rfl, by decide +kernel, rfl, by decide +kernel, by decide +kernel⟩
abbrev s_higher : Stmt := topS 59
theorem sc_higher : FnScope ["plan", "one", "other", "event"] ["plan", "one", "other"] (defScope s_higher) := ⟨rfl, rfl, rfl, by decide +kernel, rfl, by decide +kernel, by decide +kernel⟩
abbrev s_lower : Stmt := topS 60
theorem sc_lower : FnScope ["plan", "one", "other", "event"] ["plan", "one", "other"] (defScope s_lower) := ⟨rfl, rfl, rfl, by decide +kernel, rfl, by decide +kernel, by decide +kernel⟩

section
variable {P : Program} {w : World} {K : PySem.W.Frag} {mg : Str → Option Value} {base : Heap}
/-! ### two counts -/
theorem tyo_same {H H' : Hp} {x : V} {t : Value} (h : TyOf K H x t) (s : Same H H') : TyOf K H' x t := by
  cases h with
  | non => exact .non
  | bl b => exact .bl b
  | int i => exact .int i
  | str z => exact .str z
  | flt z => exact .flt z
  | lst e => exact .lst (s _ _ e)
  | frz e => exact .frz (s _ _ e)
  | tup e => exact .tup (s _ _ e)
  | dK e => exact .dK (s _ _ e)
  | dT e => exact .dT (s _ _ e)
  | ins e cl ha hn htk hm => exact .ins (s _ _ e) cl ha hn htk hm
theorem ty_same {H H' : Hp} {x : V} {t : Value} (h : TyX K H x t) (s : Same H H') : TyX K H' x t := by
  cases h with
  | base h => exact .base (tyo_same h s)
  | byt b => exact .byt b
  | set e => exact .set (s _ _ e)
  | kList e c => exact .kList e c
  | kTuple e c => exact .kTuple e c
  | kDict e c => exact .kDict e c
  | fTuple e => exact .fTuple (s _ _ e)
  | fDict e => exact .fDict (s _ _ e)
theorem NoCounts.same {d : PlanD} {H H' : Hp} {y : V} (h : NoCounts K d H y) (s : Same H H') : NoCounts K d H' y := by
  rcases h with ⟨t, ht, hk⟩ | ⟨c, kvs, e, h1, h2⟩
  · exact .inl ⟨t, ty_same ht s, hk⟩
  · exact .inr ⟨c, kvs, e, s _ _ h1, h2⟩
/-- a dict comprehension over a walk -/
theorem dc_it {J : It} {n : Nat} {G : Hp → Prop} {Y : Nat → Hp → V → Hp → Prop} (w : Walk J n G Y) {g : TG} {tt : TT} {tk tv : TE} {vs : List Nat} {σ : L2.St} {H1 : Hp} {D : Addr} {Qd : Hp → Prop} (Pv : Nat → Hp → Prop) (h0 : Pv 0 (upd H1 D (.dK []))) (hG : ∀ i H, i ≤ n → Pv i H → G H)
    (hs : ∀ i x H H', i < n → Pv i H → Y i H x H' → g x (wipe σ vs) H' fun σ2 H2 => wipe σ2 vs = wipe σ vs ∧ tt σ2 H2 fun b H3 =>
      if b = true then tk σ2 H3 fun y H4 => tv σ2 H4 fun z H5 => ∃ kvs k, y = kV k ∧ H5 D = some (.dK kvs) ∧ kvs.length < sizeLine ∧ Pv (i + 1) (upd H5 D (.dK (putK kvs k z))) else Pv (i + 1) H3) (hd : ∀ H, Pv n H → Qd H) :
    ∃ W : Nat → Nat → Hp → Prop, (∃ m, W 0 m (upd H1 D (.dK []))) ∧ ∀ i m H, W i m H →
      (J.stop i H ∧ Qd H) ∨ (J.go i H ∧ ∃ Nx : Hp → Prop, (∀ H', Nx H' → ∃ m', m' < m ∧ W (i + 1) m' H') ∧ ∀ x H', J.yld i H x H' → g x (wipe σ vs) H' fun σ2 H2 => wipe σ2 vs = wipe σ vs ∧ tt σ2 H2 fun b H3 =>
        if b = true then tk σ2 H3 fun y H4 => tv σ2 H4 fun z H5 => ∃ kvs k, y = kV k ∧ H5 D = some (.dK kvs) ∧ kvs.length < sizeLine ∧ Nx (upd H5 D (.dK (putK kvs k z))) else Nx H3) := by
  refine ⟨fun i m H => m = n - i ∧ i ≤ n ∧ Pv i H, ⟨n, by simp, Nat.zero_le _, h0⟩, ?_⟩
  rintro i m H ⟨rfl, hi, p⟩
  rcases Nat.lt_or_ge i n with hlt | hge
  · exact .inr ⟨w.goes i H hlt (hG i H hi p), Pv (i + 1), fun H' p' => ⟨n - (i + 1), by omega, rfl, hlt, p'⟩, fun x H' y => hs i x H H' hlt p (w.yields i H x H' hlt (hG i H hi p) y)⟩
  · have e : i = n := Nat.le_antisymm hi hge
    subst e
    exact .inl ⟨w.stops H (hG _ H hi p), hd H p⟩
def mx (a b : Int) : Int := if b > a then b else a
def mn (a b : Int) : Int := if b < a then b else a
def mapC (es : List Str) (g : Str → Int) : List (Key × V) := es.map fun e => (.inr e, .int (g e))
theorem mapC_put {es : List Str} {g : Str → Int} {i : Nat} (hnd : es.Nodup) (hi : i < es.length) : putK (mapC (es.take i) g) (.inr es[i]) (.int (g es[i])) = mapC (es.take (i + 1)) g := by
  have hn : valV (mapC (es.take i) g) (.inr es[i]) = none := by
    refine valV_none fun p hp e => ?_
    unfold mapC at hp
    obtain ⟨x, hx, rfl⟩ := List.mem_map.mp hp
    have e2 : x = es[i] := Sum.inr.inj e
    subst e2
    obtain ⟨j, hj, e3⟩ := List.getElem_of_mem hx
    rw [List.getElem_take] at e3
    rw [List.length_take] at hj
    have := (List.getElem_inj (h₀ := by omega) (h₁ := hi) hnd).mp e3
    omega
  rw [putK_new _ hn, List.take_add_one, List.getElem?_eq_getElem hi]
  unfold mapC
  rw [List.map_append]
  rfl
def spTwo (K : PySem.W.Frag) (C CE CF : Addr) (R : VK → Hp → PlanD → List (Key × V) → List (Key × V) → Prop) : Sp := fun vs H Q E => ∃ v y z, vs = [v, y, z] ∧ Due K C CE CF v y H E fun _ d ks => (NoCounts K d H z ∧ ∀ H', Same H H' → Out CF "value" z E H') ∨ ∃ ls, Counts d H z ls ∧ R Q H d ks ls
theorem ok_need_two {C CE CF f : Addr} {fd : FuncData} (F : Fun K "need_two_counts" "need_two_counts" s_need_two_counts f fd) (T : Txt mg) (cneed_counts : CalX P w K mg base 4 "need_counts" (spNeedCounts K C CE CF)) :
    FnOk P w K mg base (L2.CX P w) 5 f fd ["plan", "one", "other"] (spTwo K C CE CF fun Q H _ _ _ => ∀ H', Same H H' → Q .non H') := by
  have nd := sc_need_two_counts.nd
  refine F.okX sc_need_two_counts (fun vs H Q E h => ?_) (fun cdv A outer s H vs Q E hr h => ?_)
  · obtain ⟨_, _, _, rfl, _⟩ := h
    rfl
  · obtain ⟨v, y, z, rfl, h⟩ := h
    refine ⟨_, (pss_cons (ps_expr (pe_cX cneed_counts (takes_of rfl rfl rfl rfl) hr (by decide) rfl (pa_cons (pv 0) (pa_cons (pv 1) pa_nil))))
      (pss_one (ps_expr (pe_cX cneed_counts (takes_of rfl rfl rfl rfl) hr (by decide) rfl (pa_cons (pv 0) (pa_cons (pv 2) pa_nil)))))), ?_⟩
    rcases h with ⟨hn, e⟩ | ⟨p, d, rfl, hp, hl, ⟨hn, e⟩ | ⟨ks, hc, ⟨hn, e⟩ | ⟨ls, hd, q⟩⟩⟩
    · exact ⟨_, rfl, _, rfl, v, y, rfl, .inl ⟨hn, e⟩⟩
    · exact ⟨_, rfl, _, rfl, _, y, rfl, .inr ⟨p, d, rfl, hp, hl, .inl ⟨hn, e⟩⟩⟩
    · exact ⟨_, rfl, _, rfl, _, y, rfl, .inr ⟨p, d, rfl, hp, hl, .inr ⟨ks, hc, fun H1 s1 => ⟨_, rfl, _, rfl, _, z, rfl, .inr ⟨p, d, rfl, hp.same s1, hl, .inl ⟨hn.same s1, fun H2 s2 => e _ (Same.trans s1 s2)⟩⟩⟩⟩⟩⟩
    · exact ⟨_, rfl, _, rfl, _, y, rfl, .inr ⟨p, d, rfl, hp, hl, .inr ⟨ks, hc, fun H1 s1 => ⟨_, rfl, _, rfl, _, z, rfl, .inr ⟨p, d, rfl, hp.same s1, hl, .inr ⟨ls, hd.same s1, fun H2 s2 => q _ (Same.trans s1 s2)⟩⟩⟩⟩⟩⟩
theorem ok_higher {C CE CF f : Addr} {fd : FuncData} (F : Fun K "higher" "higher" s_higher f fd) (T : Txt mg) (PI : PlanI K C) (cEvents : CalM P w K mg base 1 C "events" (spPEvents K C))
    (cneed_two_counts : CalX P w K mg base 5 "need_two_counts" (spTwo K C CE CF fun Q H _ _ _ => ∀ H', Same H H' → Q .non H')) :
    FnOk P w K mg base (L2.CX P w) 6 f fd ["plan", "one", "other"] (spTwo K C CE CF fun Q H d ks ls => d.evs.Nodup ∧ ∀ q H', Same H H' → H' q = some (.dK (mapC d.evs fun e => mx (cntOf ks e) (cntOf ls e))) → Q (.ref q) H') := by
  have nd := sc_higher.nd
  refine F.okX sc_higher (fun vs H Q E h => ?_) (fun cdv A outer s H vs Q E hr h => ?_)
  · obtain ⟨_, _, _, rfl, _⟩ := h
    rfl
  · obtain ⟨v, y, z, rfl, h⟩ := h
    have hu : (A.deeper (envOfC "higher" (defScope s_higher) s.heap.objs.size f cdv)).units + 1 < cLine := by
      have := hr.units
      omega
    refine ⟨_, (pss_cons (ps_expr (pe_cX cneed_two_counts (takes_of rfl rfl rfl rfl) hr (by decide) rfl (pa_cons (pv 0) (pa_cons (pv 1) (pa_cons (pv 2) pa_nil)))))
      (pss_one (ps_ret (pe_dc (own := [("event", 3)]) (g := gName 3) (tt := tYes) rfl nd (pi_list (pe_m0' (pv 0) PI.cls cEvents hr (by decide))) (blkOk_by (N := ["plan", "one", "other", "event"]) (sc := defScope s_higher) (by decide +kernel)) (fun _ _ _ _ _ => pg_name (i := 3) nd rfl (Or.inl rfl)) (fun _ _ _ _ _ => pts_nil) (fun _ _ _ _ _ => (pv 3)) (fun _ _ _ _ _ => (pe_callB (call_max2 rfl) (by rfl) T.m_max PyProof.Rows.boot_max (pa_cons (pe_dget hu (pv 1) (pv 3) (fun _ _ => rfl)) (pa_cons (pe_dget hu (pv 2) (pv 3) (fun _ _ => rfl)) pa_nil)))))))), ?_⟩
    rcases h with ⟨hn, e⟩ | ⟨p, d, rfl, hp, hl, ⟨hn, e⟩ | ⟨ks, hc, ⟨hn, e⟩ | ⟨ls, hd, hnd, q⟩⟩⟩
    · exact ⟨_, rfl, _, rfl, _, rfl, v, y, z, rfl, .inl ⟨hn, e⟩⟩
    · exact ⟨_, rfl, _, rfl, _, rfl, _, y, z, rfl, .inr ⟨p, d, rfl, hp, hl, .inl ⟨hn, e⟩⟩⟩
    · exact ⟨_, rfl, _, rfl, _, rfl, _, y, z, rfl, .inr ⟨p, d, rfl, hp, hl, .inr ⟨ks, hc, .inl ⟨hn, e⟩⟩⟩⟩
    refine ⟨_, rfl, _, rfl, _, rfl, _, y, z, rfl, .inr ⟨p, d, rfl, hp, hl, .inr ⟨ks, hc, .inr ⟨ls, hd, fun H1 s1 => ?_⟩⟩⟩⟩
    obtain ⟨c1, rfl, h1, _, b1⟩ := hc
    obtain ⟨c2, rfl, h2, _, b2⟩ := hd
    have hp1 := hp.same s1
    obtain ⟨dx, o, r, cc, ts0, g1, _⟩ := id hp1.ex
    refine ⟨_, rfl, p, dx, _, rfl, g1, rfl, p, d, rfl, hp1, fun l nl => ⟨l, rfl, ⟨_, .inl (.inl upd_same)⟩, fun D hD => ?_⟩⟩
    have hl1 : (upd H1 l (.lst (d.evs.map V.str))) l = some (.lst (d.evs.map V.str)) := upd_same
    have sl : Same H (upd H1 l (.lst (d.evs.map V.str))) := Same.trans s1 (same_upd nl)
    revert hD hl1 sl
    generalize upd H1 l (.lst (d.evs.map V.str)) = H2
    intro hD hl1 sl
    refine dc_it (walk_list (K := K) (a := l) (xs := d.evs.map V.str)) (fun i H' => Same H2 H' ∧ H' D = some (.dK (mapC (d.evs.take i) fun e => mx (cntOf ks e) (cntOf ls e)))) ⟨same_upd hD, upd_same⟩ (fun i H' _ p => .inl (.inl (p.1 _ _ hl1))) (fun i x H3 H4 hi pv yv => ?_) (fun H3 pv => ?_)
    · obtain ⟨rfl, hx⟩ := yv
      rw [List.length_map] at hi
      rw [List.getElem?_map, List.getElem?_eq_getElem hi] at hx
      cases hx
      have hm := List.getElem_mem hi
      have s3 := Same.trans sl pv.1
      refine ⟨rfl, _, rfl, _, rfl, _, rfl, c1, _, rfl, .inl ⟨ks, .inr d.evs[i], .inl (s3 _ _ h1), rfl, (cntOf_ok b1 hm).1.symm⟩, _, rfl, _, rfl, c2, _, rfl, .inl ⟨ls, .inr d.evs[i], .inl (s3 _ _ h2), rfl, (cntOf_ok b2 hm).1.symm⟩, _, _, rfl, _, .inr d.evs[i], rfl, pv.2, ?_, fun b o hb => ?_, ?_⟩
      · unfold mapC
        rw [List.length_map, List.length_take]
        exact Nat.lt_of_le_of_lt (Nat.min_le_right _ _) (Nat.lt_of_lt_of_le (by omega) (sz 100))
      · rw [upd_ne (ne_of_none hb hD)]
        exact pv.1 _ _ hb
      · rw [upd_same]
        exact congrArg (fun z => some (HO.dK z)) (mapC_put (g := fun e => mx (cntOf ks e) (cntOf ls e)) hnd hi)
    · refine q D H3 (Same.trans sl pv.1) ?_
      rw [pv.2, List.length_map, List.take_length]
theorem ok_lower {C CE CF f : Addr} {fd : FuncData} (F : Fun K "lower" "lower" s_lower f fd) (T : Txt mg) (PI : PlanI K C) (cEvents : CalM P w K mg base 1 C "events" (spPEvents K C))
    (cneed_two_counts : CalX P w K mg base 5 "need_two_counts" (spTwo K C CE CF fun Q H _ _ _ => ∀ H', Same H H' → Q .non H')) :
    FnOk P w K mg base (L2.CX P w) 6 f fd ["plan", "one", "other"] (spTwo K C CE CF fun Q H d ks ls => d.evs.Nodup ∧ ∀ q H', Same H H' → H' q = some (.dK (mapC d.evs fun e => mn (cntOf ks e) (cntOf ls e))) → Q (.ref q) H') := by
  have nd := sc_lower.nd
  refine F.okX sc_lower (fun vs H Q E h => ?_) (fun cdv A outer s H vs Q E hr h => ?_)
  · obtain ⟨_, _, _, rfl, _⟩ := h
    rfl
  · obtain ⟨v, y, z, rfl, h⟩ := h
    have hu : (A.deeper (envOfC "lower" (defScope s_lower) s.heap.objs.size f cdv)).units + 1 < cLine := by
      have := hr.units
      omega
    refine ⟨_, (pss_cons (ps_expr (pe_cX cneed_two_counts (takes_of rfl rfl rfl rfl) hr (by decide) rfl (pa_cons (pv 0) (pa_cons (pv 1) (pa_cons (pv 2) pa_nil)))))
      (pss_one (ps_ret (pe_dc (own := [("event", 3)]) (g := gName 3) (tt := tYes) rfl nd (pi_list (pe_m0' (pv 0) PI.cls cEvents hr (by decide))) (blkOk_by (N := ["plan", "one", "other", "event"]) (sc := defScope s_lower) (by decide +kernel)) (fun _ _ _ _ _ => pg_name (i := 3) nd rfl (Or.inl rfl)) (fun _ _ _ _ _ => pts_nil) (fun _ _ _ _ _ => (pv 3)) (fun _ _ _ _ _ => (pe_callB (call_min2 rfl) (by rfl) T.m_min PyProof.Rows.boot_min (pa_cons (pe_dget hu (pv 1) (pv 3) (fun _ _ => rfl)) (pa_cons (pe_dget hu (pv 2) (pv 3) (fun _ _ => rfl)) pa_nil)))))))), ?_⟩
    rcases h with ⟨hn, e⟩ | ⟨p, d, rfl, hp, hl, ⟨hn, e⟩ | ⟨ks, hc, ⟨hn, e⟩ | ⟨ls, hd, hnd, q⟩⟩⟩
    · exact ⟨_, rfl, _, rfl, _, rfl, v, y, z, rfl, .inl ⟨hn, e⟩⟩
    · exact ⟨_, rfl, _, rfl, _, rfl, _, y, z, rfl, .inr ⟨p, d, rfl, hp, hl, .inl ⟨hn, e⟩⟩⟩
    · exact ⟨_, rfl, _, rfl, _, rfl, _, y, z, rfl, .inr ⟨p, d, rfl, hp, hl, .inr ⟨ks, hc, .inl ⟨hn, e⟩⟩⟩⟩
    refine ⟨_, rfl, _, rfl, _, rfl, _, y, z, rfl, .inr ⟨p, d, rfl, hp, hl, .inr ⟨ks, hc, .inr ⟨ls, hd, fun H1 s1 => ?_⟩⟩⟩⟩
    obtain ⟨c1, rfl, h1, _, b1⟩ := hc
    obtain ⟨c2, rfl, h2, _, b2⟩ := hd
    have hp1 := hp.same s1
    obtain ⟨dx, o, r, cc, ts0, g1, _⟩ := id hp1.ex
    refine ⟨_, rfl, p, dx, _, rfl, g1, rfl, p, d, rfl, hp1, fun l nl => ⟨l, rfl, ⟨_, .inl (.inl upd_same)⟩, fun D hD => ?_⟩⟩
    have hl1 : (upd H1 l (.lst (d.evs.map V.str))) l = some (.lst (d.evs.map V.str)) := upd_same
    have sl : Same H (upd H1 l (.lst (d.evs.map V.str))) := Same.trans s1 (same_upd nl)
    revert hD hl1 sl
    generalize upd H1 l (.lst (d.evs.map V.str)) = H2
    intro hD hl1 sl
    refine dc_it (walk_list (K := K) (a := l) (xs := d.evs.map V.str)) (fun i H' => Same H2 H' ∧ H' D = some (.dK (mapC (d.evs.take i) fun e => mn (cntOf ks e) (cntOf ls e)))) ⟨same_upd hD, upd_same⟩ (fun i H' _ p => .inl (.inl (p.1 _ _ hl1))) (fun i x H3 H4 hi pv yv => ?_) (fun H3 pv => ?_)
    · obtain ⟨rfl, hx⟩ := yv
      rw [List.length_map] at hi
      rw [List.getElem?_map, List.getElem?_eq_getElem hi] at hx
      cases hx
      have hm := List.getElem_mem hi
      have s3 := Same.trans sl pv.1
      refine ⟨rfl, _, rfl, _, rfl, _, rfl, c1, _, rfl, .inl ⟨ks, .inr d.evs[i], .inl (s3 _ _ h1), rfl, (cntOf_ok b1 hm).1.symm⟩, _, rfl, _, rfl, c2, _, rfl, .inl ⟨ls, .inr d.evs[i], .inl (s3 _ _ h2), rfl, (cntOf_ok b2 hm).1.symm⟩, _, _, rfl, _, .inr d.evs[i], rfl, pv.2, ?_, fun b o hb => ?_, ?_⟩
      · unfold mapC
        rw [List.length_map, List.length_take]
        exact Nat.lt_of_le_of_lt (Nat.min_le_right _ _) (Nat.lt_of_lt_of_le (by omega) (sz 100))
      · rw [upd_ne (ne_of_none hb hD)]
        exact pv.1 _ _ hb
      · rw [upd_same]
        exact congrArg (fun z => some (HO.dK z)) (mapC_put (g := fun e => mn (cntOf ks e) (cntOf ls e)) hnd hi)
    · refine q D H3 (Same.trans sl pv.1) ?_
      rw [pv.2, List.length_map, List.take_length]

end
end Pk

set_option Elab.async false
set_option linter.all false
set_option maxRecDepth 100000
set_option maxHeartbeats 4000000
namespace Pk
open PySem PySem.Spec PyProof.Rows L2 Pu
open PySem.Er (ErrTxt)
abbrev s_beginning : Stmt := topS 50
theorem sc_beginning : FnScope ["plan", "begin", "event"] ["plan", "begin"] (defScope s_beginning) := ⟨rfl, rfl, rfl, by decide +kernel, rfl, by decide +kernel, by decide +kernel⟩
abbrev s_need_run : Stmt := topS 51
theorem sc_need_run : FnScope ["plan", "run", "event"] ["plan", "run"] (defScope s_need_run) := ⟨rfl, rfl, rfl, by decide +kernel, rfl, by decide +kernel, by decide +kernel⟩

section
variable {P : Program} {w : World} {K : PySem.W.Frag} {mg : Str → Option Value} {base : Heap}
/-! ### where a run begins -/
def spBegin (K : PySem.W.Frag) (C CF CN : Addr) : Sp := fun vs H Q E => ∃ (p : Addr) (y : V) (d : PlanD), vs = [.ref p, y] ∧ PlanAt K C H p d ∧ PlanOk d ∧
  ((y = .non ∧ ∀ q H', Same H H' → H q = none → H' q = some (.dK (mapC d.evs fun _ => 0)) → Q (.ref q) H') ∨ (y ≠ .non ∧ NoCounts K d H y ∧ ∀ H', Same H H' → Out CF "value" y E H') ∨
    ∃ kvs, Counts d H y kvs ∧ (momB d (cntOf kvs) = false → ∀ H', Same H H' → Out CN "value" y E H') ∧ (momB d (cntOf kvs) = true → ∀ q H', Same H H' → H q = none → H' q = some (.dK kvs) → Q (.ref q) H'))
theorem ok_beginning {C CE CF CN f : Addr} {fd : FuncData} (F : Fun K "beginning" "beginning" s_beginning f fd) (T : Txt mg) (PI : PlanI K C) (cEvents : CalM P w K mg base 1 C "events" (spPEvents K C)) (cneed_moment : CalX P w K mg base 7 "need_moment" (spNeedMoment K C CE CF CN)) :
    FnOk P w K mg base (L2.CX P w) 8 f fd ["plan", "begin"] (spBegin K C CF CN) := by
  have nd := sc_beginning.nd
  refine F.okX sc_beginning (fun vs H Q E h => ?_) (fun cdv A outer s H vs Q E hr h => ?_)
  · obtain ⟨_, _, _, rfl, _⟩ := h
    rfl
  · obtain ⟨p, y, d, rfl, hp, ok, h⟩ := h
    have hl := ok.evs.hi
    refine ⟨_, (pss_cons (ps_if (pt_cmpR op_isN (pv 1) pe_non (by rfl))
      (pss_one (ps_ret (pe_dc (own := [("event", 2)]) (g := gName 2) (tt := tYes) rfl nd (pi_list (pe_m0' (pv 0) PI.cls cEvents hr (by decide))) (blkOk_by (N := ["plan", "begin", "event"]) (sc := defScope s_beginning) (by decide +kernel)) (fun _ _ _ _ _ => pg_name (i := 2) nd rfl (Or.inl rfl)) (fun _ _ _ _ _ => pts_nil) (fun _ _ _ _ _ => (pv 2)) (fun _ _ _ _ _ => pe_int)))) pss_nil)
      (pss_cons (ps_expr (pe_cX cneed_moment (takes_of rfl rfl rfl rfl) hr (by decide) rfl (pa_cons (pv 0) (pa_cons (pv 1) pa_nil))))
      (pss_one (ps_ret (pe_callTy call_dictD (by rfl) T.m_dict PyProof.Rows.boot_dict (pa_cons (pv 1) pa_nil)))))), ?_⟩
    rcases h with ⟨rfl, q⟩ | ⟨hy, hn, e⟩ | ⟨kvs, hc, q0, q1⟩
    · refine ⟨_, rfl, rfl, _, rfl, ?_⟩
      obtain ⟨dx, o, r, cc, ts0, g1, _⟩ := id hp.ex
      refine ⟨_, rfl, p, dx, _, rfl, g1, rfl, p, d, rfl, hp, fun l nl => ⟨l, rfl, ⟨_, .inl (.inl upd_same)⟩, fun D hD => ?_⟩⟩
      have hl1 : (upd H l (.lst (d.evs.map V.str))) l = some (.lst (d.evs.map V.str)) := upd_same
      have sl : Same H (upd H l (.lst (d.evs.map V.str))) := same_upd nl
      revert hD hl1 sl
      generalize upd H l (.lst (d.evs.map V.str)) = H2
      intro hD hl1 sl
      refine dc_it (walk_list (K := K) (a := l) (xs := d.evs.map V.str)) (fun i H' => Same H2 H' ∧ H' D = some (.dK (mapC (d.evs.take i) fun _ => 0))) ⟨same_upd hD, upd_same⟩ (fun i H' _ p => .inl (.inl (p.1 _ _ hl1))) (fun i x H3 H4 hi pv yv => ?_) (fun H3 pv => ?_)
      · obtain ⟨rfl, hx⟩ := yv
        rw [List.length_map] at hi
        rw [List.getElem?_map, List.getElem?_eq_getElem hi] at hx
        cases hx
        refine ⟨rfl, _, rfl, _, .inr d.evs[i], rfl, pv.2, ?_, fun b o hb => ?_, ?_⟩
        · unfold mapC
          rw [List.length_map, List.length_take]
          exact Nat.lt_of_le_of_lt (Nat.min_le_right _ _) (Nat.lt_of_lt_of_le (by omega) (sz 100))
        · rw [upd_ne (ne_of_none hb hD)]
          exact pv.1 _ _ hb
        · rw [upd_same]
          exact congrArg (fun z => some (HO.dK z)) (mapC_put (g := fun _ => 0) ok.evs.nd hi)
      · refine q D H3 (Same.trans sl pv.1) (sl.free hD) ?_
        rw [pv.2, List.length_map, List.take_length]
    · refine ⟨_, rfl, rfl, _, rfl, ite2 (fun z => absurd (of_decide_eq_true z) hy) (fun _ => ?_)⟩
      exact ⟨_, rfl, _, rfl, _, y, rfl, .inr ⟨p, d, rfl, hp, hl, .inl ⟨hn, e⟩⟩⟩
    · obtain ⟨c, rfl, h1, h2⟩ := hc
      refine ⟨_, rfl, rfl, _, rfl, ite2 (fun z => nomatch of_decide_eq_true z) (fun _ => ?_)⟩
      refine ⟨_, rfl, _, rfl, _, _, rfl, .inr ⟨p, d, rfl, hp, hl, .inr ⟨kvs, ⟨c, rfl, h1, h2⟩, ok, fun z H1 s1 => ?_, q0⟩⟩⟩
      exact ⟨_, rfl, c, kvs, rfl, .inl (s1 _ _ h1), fun q nq => q1 z q _ (Same.trans s1 (same_upd nq)) (s1.free nq) upd_same⟩
/-! ### need_run -/
/-- an item of a run that may be asked about: is it an event? -/
def runB (d : PlanD) : V → Bool
  | .str e => decide (e ∈ d.evs)
  | _ => false
def RunItem (K : PySem.W.Frag) (H : Hp) (x : V) : Prop := (∃ e, x = .str e) ∨ ((∀ e, x ≠ .str e) ∧ ∃ t, TyX K H x t ∧ PySem.W.kitOne K t (.type "str") = some false)
theorem ifnot_call {r : List V → Hp → VK → Prop} {te : TE} {t u : TS} {D : Ends} {σ : L2.St} {H : Hp} (h : te σ H fun x H1 => r [x] H1 fun y H2 => ∃ c, y = .bl c ∧ (if (!c) = true then t D σ H2 else u D σ H2)) : tIfS (tNot (tB (tCB r (tCons te tNil)))) t u D σ H := h
def spRun (K : PySem.W.Frag) (C CR : Addr) : Sp := fun vs H Q E => ∃ (p : Addr) (y : V) (d : PlanD), vs = [.ref p, y] ∧ PlanAt K C H p d ∧
  ((∃ t, TyX K H y t ∧ PySem.W.kitAny K t [.type "list", .type "tuple"] = some false ∧ ∀ H', Same H H' → Out CR "value" y E H') ∨
    ∃ (a : Addr) (xs : List V), y = .ref a ∧ Sq K H a xs ∧ xs.length ≤ 1000 ∧ (∀ x ∈ xs, RunItem K H x) ∧ (xs.all (runB d) = true → ∀ H', Same H H' → Q .non H') ∧ (xs.all (runB d) = false → ∀ H', Same H H' → Out CR "value" y E H'))
theorem ok_need_run {C CR fR f : Addr} {fd : FuncData} (F : Fun K "need_run" "need_run" s_need_run f fd) (T : Txt mg) (cIn : CalM P w K mg base 1 C "__contains__" (spPIn K C)) (e_InvalidRun : ErrTxt K mg "InvalidRun" "value" CR fR) :
    FnOk P w K mg base (L2.CX P w) 2 f fd ["plan", "run"] (spRun K C CR) := by
  have nd := sc_need_run.nd
  refine F.okX sc_need_run (fun vs H Q E h => ?_) (fun cdv A outer s H vs Q E hr h => ?_)
  · obtain ⟨_, _, _, rfl, _⟩ := h
    rfl
  · obtain ⟨p, y, d, rfl, hp, h⟩ := h
    refine ⟨_, (pss_cut (ps_if (pt_not (pt_val (pe_callB (isiTK K) (by rfl) T.m_isinstance PyProof.Rows.boot_isinstance (pa_cons (pv 1) (pa_cons (pe_tup (pa_cons (pe_bltn (v := .ty "list") rfl T.m_list PyProof.Rows.boot_list rfl) (pa_cons (pe_bltn (v := .ty "tuple") rfl T.m_tuple PyProof.Rows.boot_tuple rfl) pa_nil))) pa_nil)))))
      (pss_one (ps_raiseE rfl e_InvalidRun hr (takes_of rfl rfl rfl rfl) (pa_cons (pv 1) pa_nil) rfl)) pss_nil)
      (pss_one (ps_if (pt_not (pt_val (pe_callB (cr_all rfl) (by rfl) T.m_all PyProof.Rows.boot_all (pa_cons (pe_lc (own := [("event", 2)]) (g := gName 2) (tt := tYes) rfl nd (pi_seq K (pv 1)) (blkOk_by (N := ["plan", "run", "event"]) (sc := defScope s_need_run) (by decide +kernel)) (fun _ _ _ _ _ => pg_name (i := 2) nd rfl (Or.inl rfl)) (fun _ _ _ _ _ => pts_nil) (fun _ _ _ _ _ => (pe_cmpR (op_inOwn (CalM.own cIn) hr pass0) (pv 2) (pv 0) (by rfl)))) pa_nil))))
      (pss_one (ps_raiseE rfl e_InvalidRun hr (takes_of rfl rfl rfl rfl) (pa_cons (pv 1) pa_nil) rfl)) pss_nil))), ?_⟩
    refine ⟨fun σ H' => Same H H' ∧ σ = [some (.ref p), some y, none] ∧ ∃ (a : Addr) (xs : List V), y = .ref a ∧ Sq K H a xs ∧ xs.length ≤ 1000 ∧ (∀ x ∈ xs, RunItem K H x) ∧ (xs.all (runB d) = true → ∀ H', Same H H' → Q .non H') ∧ (xs.all (runB d) = false → ∀ H', Same H H' → Out CR "value" y E H'), ?_, ?_⟩
    rotate_left
    · rintro σ H0 ⟨s0, rfl, a, xs, rfl, hq, hl, hx, q1, q0⟩
      have hq0 := sq_same hq s0
      refine ifnot_call ?_
      have comp : ∀ Q' : VK, (∀ D H', Same H0 H' → H' D = some (.lst ((xs.map (runB d)).map V.bl)) → Q' (.ref D) H') →
          tLc (iSeq K (tVar 1)) (gName 2) tYes (tOp (rOwnIn C (spPIn K C) E0 false) (tVar 2) (tVar 0)) [2] [some (.ref p), some (.ref a), none] H0 Q' := by
        intro Q' hQ'
        refine lc_seq (H0 := H0) (xs := xs) (fun D i H' => Same H0 H' ∧ H' D = some (.lst (((xs.take i).map (runB d)).map V.bl))) (fun Q hQ => ⟨_, rfl, hQ⟩) hq0 (fun _ h => h) (fun D hD => ⟨same_upd hD, upd_same⟩) (fun D hD i H' _ p => p.1 _) (fun D hD i x H' hx2 pv => ?_) (fun D hD H' pv => ?_)
        · have hi := (List.getElem?_eq_some_iff.mp hx2).1
          have hpl := hp.same (Same.trans s0 pv.1)
          obtain ⟨dx, o, r, cc, ts0, g1, _⟩ := id hpl.ex
          have fin : ∃ acc, H' D = some (.lst acc) ∧ acc.length < sizeLine ∧ (Same H0 (upd H' D (.lst (acc ++ [.bl (runB d x)]))) ∧ (upd H' D (.lst (acc ++ [.bl (runB d x)]))) D = some (.lst (((xs.take (i + 1)).map (runB d)).map V.bl))) := by
            refine ⟨_, pv.2, ?_, fun b o hb => ?_, ?_⟩
            · rw [List.length_map, List.length_map, List.length_take]
              exact Nat.lt_of_le_of_lt (Nat.min_le_right _ _) (Nat.lt_of_le_of_lt hl (show 1000 < sizeLine by decide))
            · rw [upd_ne (ne_of_none hb hD)]
              exact pv.1 _ _ hb
            · rw [upd_same, List.take_add_one, hx2, List.map_append, List.map_append]
              rfl
          rcases hx x (List.mem_of_getElem? hx2) with ⟨e, rfl⟩ | ⟨hne, t2, ht2, hk2⟩
          · exact ⟨rfl, _, rfl, _, rfl, p, dx, _, rfl, g1, p, _, d, rfl, hpl, .inl ⟨e, rfl, _, rfl, fin⟩⟩
          · have e2 : runB d x = false := by
              cases x with
              | str e => exact absurd rfl (hne e)
              | _ => rfl
            rw [e2] at fin
            exact ⟨rfl, _, rfl, _, rfl, p, dx, _, rfl, g1, p, _, d, rfl, hpl, .inr ⟨t2, ty_same ht2 (Same.trans s0 pv.1), hk2, _, rfl, fin⟩⟩
        · refine hQ' D H' pv.1 ?_
          rw [pv.2, List.take_length]
      refine comp _ (fun D H' s1 hD => ⟨D, _, rfl, .inl (.inl hD), _, rfl, ?_⟩)
      rw [List.all_map]
      show if (!(xs.all (runB d))) = true then _ else _
      cases hz : xs.all (runB d) with
      | true => exact q1 hz _ (Same.trans s0 s1)
      | false => exact ⟨_, rfl, _, rfl, q0 hz _ (Same.trans s0 s1)⟩
    refine ⟨_, rfl, sz 2, fun T0 n0 => ?_⟩
    have s0 : Same H (upd H T0 (.tup [.ty "list", .ty "tuple"])) := same_upd n0
    have hT : (upd H T0 (.tup [.ty "list", .ty "tuple"])) T0 = some (.tup [.ty "list", .ty "tuple"]) := upd_same
    revert s0 hT
    generalize upd H T0 (.tup [.ty "list", .ty "tuple"]) = H0
    intro s0 hT
    rcases h with ⟨t, ht, hk, e⟩ | ⟨a, xs, rfl, hq, hl, hx, q1, q0⟩
    · exact ⟨_, T0, _, _, _, false, rfl, hT, .cons (.ty _) (.cons (.ty _) .nil), ty_same ht s0, hk, _, rfl, _, rfl, _, rfl, e _ s0⟩
    have hq0 := sq_same hq s0
    obtain ⟨t, hty, hk⟩ := ty_sq hq0
    exact ⟨_, T0, _, _, _, true, rfl, hT, .cons (.ty _) (.cons (.ty _) .nil), hty, hk, _, rfl, s0, rfl, a, xs, rfl, hq, hl, hx, q1, q0⟩

end
end Pk

set_option Elab.async false
set_option linter.all false
set_option maxRecDepth 100000
set_option maxHeartbeats 4000000
namespace Pk
open PySem PySem.Spec PyProof.Rows L2 Pu
open PySem.Er (ErrTxt)
abbrev s_waits : Stmt := topS 52
theorem sc_waits : FnScope ["plan", "awaited", "earlier", "later", "lag", "event"] ["plan"] (defScope s_waits) := ⟨rfl, rfl, rfl, by decide +kernel, rfl, by decide +kernel, by decide +kernel⟩
abbrev s_is_ready : Stmt := topS 53
theorem sc_is_ready : FnScope ["awaited", "counts", "event", "earlier", "lag"] ["awaited", "counts", "event"] (defScope s_is_ready) := ⟨rfl, rfl, rfl, by decide +kernel, rfl, by decide +kernel, by decide +kernel⟩

section
variable {P : Program} {w : World} {K : PySem.W.Frag} {mg : Str → Option Value} {base : Heap}
/-! ### what the events wait for -/
def waitP (ties : List (Str × Str × Int)) (e : Str) : List (Str × Int) := (ties.filter fun t => decide (t.2.1 = e)).map fun t => (t.1, t.2.2)
def PrsAt (H : Hp) (ts : List Addr) (ps : List (Str × Int)) : Prop := Paired (fun a p => H a = some (.tup [.str p.1, .int p.2])) ts ps
def mapF (es : List Str) (f : Str → Addr) : List (Key × V) := es.map fun e => (.inr e, .ref (f e))
/-- the dict at w: for each event the list of what it waits for -/
def Waits (d : PlanD) (H : Hp) (w : Addr) : Prop := ∃ f : Str → Addr, H w = some (.dK (mapF d.evs f)) ∧ ∀ e ∈ d.evs, ∃ ts, H (f e) = some (.lst (ts.map V.ref)) ∧ PrsAt H ts (waitP d.ties e)
theorem PrsAt.same {H H' : Hp} {ts : List Addr} {ps : List (Str × Int)} (h : PrsAt H ts ps) (s : Same H H') : PrsAt H' ts ps := Paired.mapP h fun _ _ e => s _ _ e
theorem PrsAt.get {H : Hp} {ts : List Addr} {ps : List (Str × Int)} (h : PrsAt H ts ps) : ∀ {i : Nat} {x : V}, (ts.map V.ref)[i]? = some x → ∃ a p, x = .ref a ∧ ps[i]? = some p ∧ H a = some (.tup [.str p.1, .int p.2]) := by
  unfold PrsAt at h
  induction h with
  | nil => intro i x e; simp at e
  | @cons a t as bs r _ ih =>
    intro i x e
    cases i with
    | zero =>
      have e : some (V.ref a) = some x := e
      cases e
      exact ⟨a, t, rfl, rfl, r⟩
    | succ i => exact ih (i := i) (x := x) e
theorem PrsAt.snoc {H : Hp} {ts : List Addr} {ps : List (Str × Int)} {T : Addr} {p : Str × Int} (h : PrsAt H ts ps) (e : H T = some (.tup [.str p.1, .int p.2])) : PrsAt H (ts ++ [T]) (ps ++ [p]) := by
  unfold PrsAt at *
  induction h with
  | nil => exact .cons e .nil
  | cons r _ ih => exact .cons r ih
theorem PrsAt.len {H : Hp} {ts : List Addr} {ps : List (Str × Int)} (h : PrsAt H ts ps) : ts.length = ps.length := Paired.length h
theorem Waits.same {d : PlanD} {H H' : Hp} {w : Addr} (h : Waits d H w) (s : Same H H') : Waits d H' w := by
  obtain ⟨f, h1, h2⟩ := h
  refine ⟨f, s _ _ h1, fun e he => ?_⟩
  obtain ⟨ts, h3, h4⟩ := h2 e he
  exact ⟨ts, s _ _ h3, h4.same s⟩
theorem valV_mapF {es : List Str} {f : Str → Addr} {e : Str} (he : e ∈ es) : valV (mapF es f) (.inr e) = some (.ref (f e)) := by
  induction es with
  | nil => cases he
  | cons d r ih =>
    show Option.map (·.2) (List.find? _ ((.inr d, .ref (f d)) :: mapF r f)) = _
    rw [List.find?_cons]
    by_cases e1 : d = e
    · subst e1
      rw [decide_eq_true rfl]
      rfl
    · rw [decide_eq_false (fun q : (Sum.inr d : Key) = .inr e => e1 (Sum.inr.inj q))]
      rcases List.mem_cons.mp he with h | h
      · exact absurd h.symm e1
      · exact ih h
/-- what is new -/
def newP (H H' : Hp) : Hp := fun a => match H a with
  | none => H' a
  | some _ => none
theorem newP_of {H H' : Hp} {a : Addr} (h : H a = none) : newP H H' a = H' a := by
  unfold newP
  rw [h]
theorem newP_old {H H' : Hp} {a : Addr} {o : HO} (h : H a = some o) : newP H H' a = none := by
  unfold newP
  rw [h]
theorem newP_same {H H' : Hp} : Same (newP H H') H' := fun a o h => by
  unfold newP at h
  cases e : H a with
  | none => rw [e] at h; exact h
  | some u => rw [e] at h; cases h
theorem newP_some {H H' : Hp} {a : Addr} {o : HO} (h : newP H H' a = some o) : H a = none := by
  cases e : H a with
  | none => rfl
  | some u => rw [newP_old e] at h; cases h
theorem newP_mono {H H' H'' : Hp} (s : Same H' H'') : Same (newP H H') (newP H H'') := fun a o h => by
  rw [newP_of (newP_some h)]
  exact s _ _ (newP_same _ _ h)
def spWaits (K : PySem.W.Frag) (C : Addr) : Sp := fun vs H Q _ => ∃ (p : Addr) (d : PlanD), vs = [.ref p] ∧ PlanAt K C H p d ∧ PlanOk d ∧ ∀ w H', Same H H' → Waits d (newP H H') w → Q (.ref w) H'
theorem ok_waits {C f : Addr} {fd : FuncData} (F : Fun K "waits" "waits" s_waits f fd) (T : Txt mg) (PI : PlanI K C) (cTies : CalM P w K mg base 1 C "ties" (spPTies K C)) (cEvents : CalM P w K mg base 1 C "events" (spPEvents K C)) :
    FnOk P w K mg base CX0 2 f fd ["plan"] (spWaits K C) := by
  have nd := sc_waits.nd
  refine F.ok sc_waits (fun vs H Q E h => ?_) (fun cdv A outer s H vs Q E hr h => ?_)
  · obtain ⟨_, _, rfl, _⟩ := h
    rfl
  · obtain ⟨p, d, rfl, hp, ok, q⟩ := h
    have hl := ok.evs.hi
    have hu := hu_of hr
    refine ⟨_, (pss_cons (ps_setDc (i := 1) (y := "awaited") (own := [("event", 5)]) (g := gName 5) (tt := tYes) rfl nd rfl rfl (sw_dict rfl rfl rfl (by decide +kernel)) (pi_list (pe_m0' (pv 0) PI.cls cEvents hr (by decide))) (blkOk_by (N := ["plan", "awaited", "earlier", "later", "lag", "event"]) (sc := defScope s_waits) (by decide +kernel)) (fun _ _ _ _ _ => pg_name (i := 5) nd rfl (Or.inl rfl)) (fun _ _ _ _ _ => pts_nil) (fun _ _ _ _ _ => (pv 5)) (fun _ _ _ _ _ => (pe_lst pa_nil)))
      (pss_cons (ps_for PassesOwn.never rfl (pi_list (pe_m0' (pv 0) PI.cls cTies hr (by decide))) (pg_tup rfl (pgs_cons (pg_name (i := 2) nd rfl (Or.inl rfl)) (pgs_cons (pg_name (i := 3) nd rfl (Or.inl rfl)) (pgs_cons (pg_name (i := 4) nd rfl (Or.inl rfl)) pgs_nil))))
      (pss_one (ps_expr (pe_bm PySem.F.plainAttrs_list PySem.F.slot_list_append PySem.F.type_list_append mt_append (pe_dget hu (pv 1) (pv 3) (fun _ _ => rfl)) (pa_cons (pe_tup (pa_cons (pv 2) (pa_cons (pv 4) pa_nil))) pa_nil)))))
      (pss_one (ps_ret (pv 1))))), ?_⟩
    obtain ⟨dx, o, r, cc, ts0, g1, _⟩ := id hp.ex
    refine seq_asg ?_
    refine ⟨_, rfl, p, dx, _, rfl, g1, rfl, p, d, rfl, hp, fun l nl => ⟨l, rfl, ⟨_, .inl (.inl upd_same)⟩, fun D hD => ?_⟩⟩
    have hl1 : (upd H l (.lst (d.evs.map V.str))) l = some (.lst (d.evs.map V.str)) := upd_same
    have sl : Same H (upd H l (.lst (d.evs.map V.str))) := same_upd nl
    revert hD hl1 sl
    generalize upd H l (.lst (d.evs.map V.str)) = H2
    intro hD hl1 sl
    refine dc_it (walk_list (K := K) (a := l) (xs := d.evs.map V.str)) (fun i H' => Same H2 H' ∧ ∃ g : Str → Addr, H' D = some (.dK (mapF (d.evs.take i) g)) ∧ (∀ e ∈ d.evs.take i, H' (g e) = some (.lst []) ∧ H2 (g e) = none) ∧ ∀ e ∈ d.evs.take i, ∀ e' ∈ d.evs.take i, g e = g e' → e = e') ⟨same_upd hD, fun _ => D, upd_same, fun e he => absurd he List.not_mem_nil, fun e he => absurd he List.not_mem_nil⟩ (fun i H' _ p => .inl (.inl (p.1 _ _ hl1))) (fun i x H3 H4 hi pv yv => ?_) (fun H3 pv => ?_)
    · obtain ⟨rfl, hx⟩ := yv
      obtain ⟨s3, g, hg, hls, hinj⟩ := pv
      rw [List.length_map] at hi
      rw [List.getElem?_map, List.getElem?_eq_getElem hi] at hx
      cases hx
      refine ⟨rfl, _, rfl, sz 0, fun L nL => ?_⟩
      have nL2 : H2 L = none := s3.free nL
      have hneD : D ≠ L := ne_of_none hg nL
      have hfr : d.evs[i] ∉ d.evs.take i := fun hm => by
        obtain ⟨j, hj, e⟩ := List.getElem_of_mem hm
        rw [List.getElem_take] at e
        rw [List.length_take] at hj
        exact List.pairwise_iff_getElem.mp ok.evs.nd j i (by omega) hi (by omega) e
      have hgL : ∀ e ∈ d.evs.take i, g e ≠ L := fun e he => ne_of_none (hls e he).1 nL
      refine ⟨_, .inr d.evs[i], rfl, by rw [upd_ne hneD]; exact hg, ?_, fun b o hb => ?_, fun x => if x = d.evs[i] then L else g x, ?_, fun e he => ?_, fun e he e' he' h => ?_⟩
      · unfold mapF
        rw [List.length_map, List.length_take]
        exact Nat.lt_of_le_of_lt (Nat.min_le_right _ _) (Nat.lt_of_lt_of_le (by omega) (sz 100))
      · rw [upd_ne (ne_of_none hb hD), upd_ne (ne_of_none (s3 _ _ hb) nL)]
        exact s3 _ _ hb
      · rw [upd_same, putK_fresh, List.take_add_one, List.getElem?_eq_getElem hi]
        · refine congrArg (fun z => some (HO.dK z)) ?_
          unfold mapF
          rw [List.map_append]
          congr 1
          · refine List.map_congr_left fun e he => ?_
            dsimp only
            rw [if_neg (fun h : e = d.evs[i] => hfr (h ▸ he))]
          · show _ = [((.inr d.evs[i] : Key), V.ref (if d.evs[i] = d.evs[i] then L else g d.evs[i]))]
            rw [if_pos rfl]
        · intro pr hpr e
          obtain ⟨e0, he0, rfl⟩ := List.mem_map.mp hpr
          have e : (Sum.inr e0 : Key) = .inr d.evs[i] := e
          exact hfr (Sum.inr.inj e ▸ he0)
      · rw [List.take_add_one, List.getElem?_eq_getElem hi] at he
        dsimp only
        rcases List.mem_append.mp he with h | h
        · rw [if_neg (fun z : e = d.evs[i] => hfr (z ▸ h))]
          have h1 := hls e h
          refine ⟨?_, h1.2⟩
          rw [upd_ne, upd_ne (hgL e h)]
          · exact h1.1
          · intro z
            rw [z] at h1
            rw [hg] at h1
            cases h1.1
        · have h : e = d.evs[i] := List.mem_singleton.mp h
          rw [if_pos h]
          refine ⟨?_, nL2⟩
          rw [upd_ne (Ne.symm hneD), upd_same]
      · rw [List.take_add_one, List.getElem?_eq_getElem hi] at he he'
        dsimp only at h
        rcases List.mem_append.mp he with h1 | h1
        · rcases List.mem_append.mp he' with h2 | h2
          · rw [if_neg (fun z : e = d.evs[i] => hfr (z ▸ h1)), if_neg (fun z : e' = d.evs[i] => hfr (z ▸ h2))] at h
            exact hinj e h1 e' h2 h
          · have h2 : e' = d.evs[i] := List.mem_singleton.mp h2
            rw [if_neg (fun z : e = d.evs[i] => hfr (z ▸ h1)), if_pos h2] at h
            exact absurd h (hgL e h1)
        · have h1 : e = d.evs[i] := List.mem_singleton.mp h1
          rcases List.mem_append.mp he' with h2 | h2
          · rw [if_pos h1, if_neg (fun z : e' = d.evs[i] => hfr (z ▸ h2))] at h
            exact absurd h.symm (hgL e' h2)
          · exact h1.trans (List.mem_singleton.mp h2).symm
    · obtain ⟨s3, g, hg, hls, hinj⟩ := pv
      rw [List.length_map, List.take_length] at hg hls hinj
      have s03 := Same.trans sl s3
      have nD : H D = none := sl.free hD
      have hls2 : ∀ e ∈ d.evs, H3 (g e) = some (.lst []) ∧ H (g e) = none := fun e he => ⟨(hls e he).1, sl.free (hls e he).2⟩
      clear hls hD hl1 sl s3 nl
      refine gname (seq_st ?_)
      have hp3 := hp.same s03
      obtain ⟨dx3, o3, r3, cc3, ts3, g3, _⟩ := id hp3.ex
      refine ⟨_, rfl, p, dx3, _, rfl, g3, rfl, p, d, rfl, hp3, fun l ts nl htl => ⟨l, rfl, ⟨_, .inl (.inl upd_same)⟩, ?_⟩⟩
      have hl4 : (upd H3 l (.lst (ts.map V.ref))) l = some (.lst (ts.map V.ref)) := upd_same
      have s4 : Same H3 (upd H3 l (.lst (ts.map V.ref))) := same_upd nl
      have hgl : ∀ e ∈ d.evs, g e ≠ l := fun e he => ne_of_none (hls2 e he).1 nl
      have hDl : D ≠ l := ne_of_none hg nl
      have hgD : ∀ e ∈ d.evs, g e ≠ D := fun e he z => by
        have := (hls2 e he).1
        rw [z, hg] at this
        cases this
      have nlH : H l = none := s03.free nl
      have htl4 := htl.same s4
      have s04 := Same.trans s03 s4
      have hls4 : ∀ e ∈ d.evs, (upd H3 l (.lst (ts.map V.ref))) (g e) = some (.lst []) := fun e he => s4 _ _ (hls2 e he).1
      have hg4 := s4 _ _ hg
      revert hl4 htl4 s04 hls4 hg4
      clear htl s4 g3 hp3 nl hg
      generalize upd H3 l (.lst (ts.map V.ref)) = H4
      intro hl4 htl4 s04 hls4 hg4
      have htlen := htl4.length
      refine for_it (walk_list (K := K) (a := l) (xs := ts.map V.ref)) (fun i σ H' => (∃ v2 v3 v4, σ = [some (.ref p), some (.ref D), v2, v3, v4, none]) ∧ Same H H' ∧ TiesAt H' ts d.ties ∧ H' l = some (.lst (ts.map V.ref)) ∧ H' D = some (.dK (mapF d.evs g)) ∧ ∀ e ∈ d.evs, ∃ rs, H' (g e) = some (.lst (rs.map V.ref)) ∧ PrsAt (newP H H') rs (waitP (d.ties.take i) e)) ⟨⟨_, _, _, rfl⟩, s04, htl4, hl4, hg4, fun e he => ⟨[], hls4 e he, .nil⟩⟩ (fun i σ H' _ pv => .inl (.inl pv.2.2.2.1)) (fun i x σ H5 H6 hi pv yv => ?_) (fun σ H5 pv => ?_)
      · obtain ⟨⟨v2, v3, v4, rfl⟩, s5, ht5, hl5, hD5, hw⟩ := pv
        obtain ⟨rfl, hx⟩ := yv
        rw [List.length_map] at hi
        obtain ⟨ct, t, rfl, hm, hget, hcell⟩ := ht5.get hx
        obtain ⟨i1, i2, _⟩ := ok.tin t hm
        obtain ⟨rs, hrs, hps⟩ := hw _ i2
        have hlen : rs.length ≤ 60 := by
          rw [hps.len]
          unfold waitP
          rw [List.length_map]
          refine Nat.le_trans (List.length_filter_le _ _) ?_
          rw [List.length_take]
          exact Nat.le_trans (Nat.min_le_right _ _) ok.tl
        refine ⟨ct, _, rfl, .inl (.inl hcell), rfl, _, _, rfl, _, _, rfl, _, _, rfl, rfl, ?_⟩
        refine ⟨_, rfl, _, rfl, D, _, rfl, .inl ⟨_, .inr t.2.1, .inl hD5, rfl, (valV_mapF i2).symm⟩, .inl ⟨rfl, _, .inl (.inl hrs)⟩, _, rfl, _, rfl, sz 2, fun T nT => ?_⟩
        have nTH : H T = none := s5.free nT
        have hrsT : g t.2.1 ≠ T := ne_of_none hrs nT
        have s6 : Same H6 (upd H6 T (.tup [.str t.1, .int t.2.2])) := same_upd nT
        refine ⟨g t.2.1, _, _, rfl, rfl, s6 _ _ hrs, by rw [List.length_map]; exact Nat.lt_of_le_of_lt hlen (Nat.lt_of_lt_of_le (by decide : 60 < 100) (sz 100)), ⟨_, _, _, rfl⟩, same_put (hls2 _ i2).2 (Same.trans s5 s6), ?_, ?_, ?_, fun e he => ?_⟩
        · refine Paired.mapP ht5 fun a u ha => ?_
          rw [upd_ne]
          · exact s6 _ _ ha
          · intro z
            rw [z, hrs] at ha
            cases ha
        · rw [upd_ne (Ne.symm (hgl _ i2))]
          exact s6 _ _ hl5
        · rw [upd_ne (Ne.symm (hgD _ i2))]
          exact s6 _ _ hD5
        · have htk : d.ties.take (i + 1) = d.ties.take i ++ [t] := by
            rw [List.take_add_one, hget]
            rfl
          have keep : ∀ (as : List Addr) (ps : List (Str × Int)), PrsAt (newP H H6) as ps → PrsAt (newP H (upd (upd H6 T (.tup [.str t.1, .int t.2.2])) (g t.2.1) (.lst (rs.map V.ref ++ [V.ref T])))) as ps := fun as ps h => Paired.mapP h fun a u ha => by
            have n1 := newP_some ha
            have h6 := newP_same _ _ ha
            rw [newP_of n1, upd_ne]
            · exact s6 _ _ h6
            · intro z
              rw [z, hrs] at h6
              cases h6
          by_cases he2 : t.2.1 = e
          · subst he2
            refine ⟨rs ++ [T], by rw [upd_same, List.map_append]; rfl, ?_⟩
            have hwp : waitP (d.ties.take (i + 1)) t.2.1 = waitP (d.ties.take i) t.2.1 ++ [(t.1, t.2.2)] := by
              unfold waitP
              rw [htk, List.filter_append, List.map_append]
              congr 1
              rw [List.filter_cons, if_pos (decide_eq_true rfl)]
              rfl
            rw [hwp]
            refine (keep _ _ hps).snoc ?_
            rw [newP_of nTH, upd_ne (Ne.symm hrsT), upd_same]
          · obtain ⟨rs', hrs', hps'⟩ := hw e he
            refine ⟨rs', ?_, ?_⟩
            · rw [upd_ne (fun z => he2 (hinj _ he _ i2 z).symm)]
              exact s6 _ _ hrs'
            · have hwp : waitP (d.ties.take (i + 1)) e = waitP (d.ties.take i) e := by
                unfold waitP
                rw [htk, List.filter_append, List.map_append]
                show _ ++ List.map _ (List.filter _ [t]) = _
                rw [List.filter_cons, if_neg (fun z => he2 (of_decide_eq_true z))]
                exact List.append_nil _
              rw [hwp]
              exact keep _ _ hps'
      · obtain ⟨⟨v2, v3, v4, rfl⟩, s5, ht5, hl5, hD5, hw⟩ := pv
        refine ⟨_, rfl, q D H5 s5 ⟨g, ?_, fun e he => ?_⟩⟩
        · rw [newP_of nD]
          exact hD5
        · obtain ⟨rs, hrs, hps⟩ := hw e he
          refine ⟨rs, ?_, ?_⟩
          · rw [newP_of (hls2 e he).2]
            exact hrs
          · rw [List.length_map, htlen, List.take_length] at hps
            exact hps
/-! ### nothing bars that an event comes -/
def readyB (d : PlanD) (c : Str → Int) (e : Str) : Bool := (waitP d.ties e).all fun p => decide (c e < c p.1 + p.2)
def spReady (K : PySem.W.Frag) : Sp := fun vs H Q _ => ∃ (v a : Addr) (e : Str) (d : PlanD) (ks : List (Key × V)), vs = [.ref v, .ref a, .str e] ∧ Waits d H v ∧ PlanOk d ∧ e ∈ d.evs ∧ H a = some (.dK ks) ∧ countsB d.evs ks = true ∧ ∀ H', Same H H' → Q (.bl (readyB d (cntOf ks) e)) H'
theorem waitP_mem {ties : List (Str × Str × Int)} {e : Str} {p : Str × Int} (h : p ∈ waitP ties e) : ∃ t ∈ ties, t.2.1 = e ∧ p = (t.1, t.2.2) := by
  obtain ⟨t, ht, rfl⟩ := List.mem_map.mp h
  exact ⟨t, (List.mem_filter.mp ht).1, of_decide_eq_true (List.mem_filter.mp ht).2, rfl⟩
theorem ok_is_ready {f : Addr} {fd : FuncData} (F : Fun K "is_ready" "is_ready" s_is_ready f fd) (T : Txt mg) : FnOk P w K mg base CX0 1 f fd ["awaited", "counts", "event"] (spReady K) := by
  have nd := sc_is_ready.nd
  refine F.ok sc_is_ready (fun vs H Q E h => ?_) (fun cdv A outer s H vs Q E hr h => ?_)
  · obtain ⟨_, _, _, _, _, rfl, _⟩ := h
    rfl
  · obtain ⟨v, a, e, d, ks, rfl, ⟨f, hv, hf⟩, ok, he, ha, hc, q⟩ := h
    have hu := hu_of hr
    refine ⟨_, (pss_one (ps_ret (pe_callB (cr_all rfl) (by rfl) T.m_all PyProof.Rows.boot_all (pa_cons (pe_lc (own := [("earlier", 3), ("lag", 4)]) (g := (gTup K 2 (gCons (gName 3) (gCons (gName 4) gNil)))) (tt := tYes) rfl nd (pi_list (pe_dget hu (pv 0) (pv 2) (fun _ _ => rfl))) (blkOk_by (N := ["awaited", "counts", "event", "earlier", "lag"]) (sc := defScope s_is_ready) (by decide +kernel)) (fun _ _ _ _ _ => (pg_tup rfl (pgs_cons (pg_name (i := 3) nd rfl (Or.inl rfl)) (pgs_cons (pg_name (i := 4) nd rfl (Or.inl rfl)) pgs_nil)))) (fun _ _ _ _ _ => pts_nil) (fun _ _ _ _ _ => (pe_cmpR op_lt (pe_dget hu (pv 1) (pv 2) (fun _ _ => rfl)) (pe_op oAdd (pe_dget hu (pv 1) (pv 3) (fun _ _ => rfl)) (pv 4)) (by rfl)))) pa_nil)))), ?_⟩
    obtain ⟨ts, hts, hps⟩ := hf e he
    have hlen : (waitP d.ties e).length ≤ 60 := by
      unfold waitP
      rw [List.length_map]
      exact Nat.le_trans (List.length_filter_le _ _) ok.tl
    have hl := hps.len
    refine ⟨_, rfl, _, rfl, v, _, rfl, .inl ⟨_, .inr e, .inl hv, rfl, (valV_mapF he).symm⟩, f e, rfl, ⟨_, .inl (.inl hts)⟩, fun D hD => ?_⟩
    refine lc_it (walk_list (K := K) (a := f e) (xs := ts.map V.ref)) (fun i H' => Same H H' ∧ H' D = some (.lst ((((waitP d.ties e).take i).map fun p => decide (cntOf ks e < cntOf ks p.1 + p.2)).map V.bl))) ⟨same_upd hD, upd_same⟩ (fun i H' _ p => .inl (.inl (p.1 _ _ hts))) (fun i x H2 H3 hi p y => ?_) (fun H2 p => ?_)
    · obtain ⟨rfl, hx⟩ := y
      obtain ⟨s2, hD2⟩ := p
      obtain ⟨ct, pr, rfl, hget, hcell⟩ := (hps.same s2).get hx
      obtain ⟨t, ht, h1, rfl⟩ := waitP_mem (List.mem_of_getElem? hget)
      obtain ⟨i1, i2, _⟩ := ok.tin t ht
      refine ⟨ct, _, rfl, .inl (.inl hcell), rfl, _, _, rfl, _, _, rfl, rfl, rfl, ?_⟩
      refine ⟨_, rfl, _, rfl, a, _, rfl, .inl ⟨ks, .inr e, .inl (s2 _ _ ha), rfl, (cntOf_ok hc he).1.symm⟩, _, rfl, _, rfl, a, _, rfl, .inl ⟨ks, .inr t.1, .inl (s2 _ _ ha), rfl, (cntOf_ok hc i1).1.symm⟩, _, rfl, .inl ⟨_, _, rfl, rfl, _, _, rfl, rfl, ?_⟩⟩
      refine ⟨_, hD2, ?_, fun b' o' hb => ?_, ?_⟩
      · rw [List.length_map, List.length_map, List.length_take]
        exact Nat.lt_of_le_of_lt (Nat.min_le_right _ _) (Nat.lt_of_le_of_lt hlen (Nat.lt_of_lt_of_le (by decide : 60 < 100) (sz 100)))
      · rw [upd_ne (ne_of_none hb hD)]
        exact s2 _ _ hb
      · rw [upd_same, List.take_add_one, hget, List.map_append, List.map_append]
        rfl
    · refine ⟨D, _, rfl, .inl (.inl p.2), ?_⟩
      rw [List.length_map, hl, List.take_length]
      have := q H2 p.1
      unfold readyB at this
      rw [List.all_map]
      exact this
theorem zero_momB {d : PlanD} (ok : PlanOk d) : momB d (cntOf (mapC d.evs fun _ => 0)) = true := by
  have hz : ∀ e, cntOf (mapC d.evs fun _ => 0) e = 0 := fun e => by
    unfold cntOf
    cases hv : valV (mapC d.evs fun _ => 0) (.inr e) with
    | none => rfl
    | some v =>
      obtain ⟨pv, hpv, rfl⟩ := valV_in hv
      obtain ⟨_, _, rfl⟩ := List.mem_map.mp hpv
      rfl
  refine momB_iff.mpr ⟨fun t ht hb => ?_, fun e _ hb => ?_⟩
  · have := (ok.tin t ht).2.2
    unfold tieBad at hb
    rw [hz, hz] at hb
    omega
  · obtain ⟨q, hq, _, hl⟩ := hb
    rw [hz] at hl
    have := (ok.cin q hq).2
    omega
/-- a tie bars it -/
theorem not_ready {d : PlanD} (ok : PlanOk d) {c : Str → Int} {e : Str} (he : e ∈ d.evs) (h : readyB d c e = false) : momB d (upC c e 1) = false := by
  unfold readyB at h
  obtain ⟨p, hp, h1⟩ := List.all_eq_false.mp h
  obtain ⟨t, ht, h2, rfl⟩ := waitP_mem hp
  have h1 : ¬ decide (c e < c t.1 + t.2.2) = true := h1
  rw [decide_eq_true_iff] at h1
  cases hb : momB d (upC c e 1) with
  | false => rfl
  | true =>
    exfalso
    refine (momB_iff.mp hb).1 t ht ?_
    unfold tieBad upC
    rw [if_pos h2]
    by_cases h3 : t.1 = e
    · rw [if_pos h3]
      rw [h3] at h1
      obtain ⟨ρ, hρ⟩ := ok.up
      have h4 := (ok.tin t ht).2.2
      by_cases h5 : t.2.2 = 0
      · have := hρ t ht h5
        rw [h3, h2] at this
        exact absurd this (Nat.lt_irrefl _)
      · omega
    · rw [if_neg h3]
      omega
/-- nothing bars it -/
theorem is_ready_mom {d : PlanD} (ok : PlanOk d) {c : Str → Int} {e : Str} (hm : momB d c = true) (h : readyB d c e = true) (hc : ∀ q ∈ d.caps, q.1 = e → c e < q.2) : momB d (upC c e 1) = true := by
  obtain ⟨m1, m2⟩ := momB_iff.mp hm
  refine momB_iff.mpr ⟨fun t ht hb => ?_, fun x hx hb => ?_⟩
  · have n1 := m1 t ht
    have h4 := (ok.tin t ht).2.2
    unfold tieBad at n1 hb
    unfold upC at hb
    by_cases h2 : t.2.1 = e
    · rw [if_pos h2] at hb
      have h5 := List.all_eq_true.mp h (t.1, t.2.2) (List.mem_map.mpr ⟨t, List.mem_filter.mpr ⟨ht, decide_eq_true h2⟩, rfl⟩)
      have h5 := of_decide_eq_true h5
      dsimp only at h5
      by_cases h3 : t.1 = e
      · rw [if_pos h3] at hb
        omega
      · rw [if_neg h3] at hb
        omega
    · rw [if_neg h2] at hb
      by_cases h3 : t.1 = e
      · rw [if_pos h3] at hb
        rw [h3] at n1
        omega
      · rw [if_neg h3] at hb
        exact n1 hb
  · obtain ⟨q, hq, e1, l1⟩ := hb
    unfold upC at l1
    by_cases h3 : x = e
    · rw [if_pos h3] at l1
      have := hc q hq (e1.trans h3)
      omega
    · rw [if_neg h3] at l1
      exact m2 x hx ⟨q, hq, e1, l1⟩
/-- the limit bars it -/
theorem full_mom {d : PlanD} {c : Str → Int} {e : Str} (he : e ∈ d.evs) (h : ∃ q ∈ d.caps, q.1 = e ∧ q.2 = c e) : momB d (upC c e 1) = false := by
  obtain ⟨q, hq, h1, h2⟩ := h
  cases hb : momB d (upC c e 1) with
  | false => rfl
  | true =>
    exfalso
    refine (momB_iff.mp hb).2 e he ⟨q, hq, h1, ?_⟩
    unfold upC
    rw [if_pos rfl]
    omega

end
end Pk

set_option Elab.async false
set_option linter.all false
set_option maxRecDepth 100000
set_option maxHeartbeats 4000000
namespace Pk
open PySem PySem.Spec PyProof.Rows L2 Pu
open PySem.Er (ErrTxt)
abbrev s_behind : Stmt := topS 54
theorem sc_behind : FnScope ["plan", "run", "begin", "counts", "awaited", "limits", "index", "event"] ["plan", "run", "begin"] (defScope s_behind) := ⟨rfl, rfl, rfl, by decide +kernel, rfl, by decide +kernel, by decide +kernel⟩

section
variable {P : Program} {w : World} {K : PySem.W.Frag} {mg : Str → Option Value} {base : Heap}
/-! ### behind -/
def walkC (d : PlanD) : (Str → Int) → List Str → Nat → (Str → Int) ⊕ Nat
  | c, [], _ => .inl c
  | c, e :: r, i => if momB d (upC c e 1) = true then walkC d (upC c e 1) r (i + 1) else .inr i
/-- counts that can be gone on from -/
structure Going (d : PlanD) (kvs : List (Key × V)) : Prop where
  fl : ∀ p ∈ kvs, flat4 p.2 = true
  cb : countsB d.evs kvs = true
  nd : (kvs.map (·.1)).Nodup
theorem going_step {d : PlanD} {kvs : List (Key × V)} {e : Str} (g : Going d kvs) (he : e ∈ d.evs) : Going d (stepK kvs e 1) ∧ cntOf (stepK kvs e 1) = upC (cntOf kvs) e 1 ∧ (stepK kvs e 1).map (·.1) = kvs.map (·.1) := by
  obtain ⟨h1, h2, h3⟩ := step_counts (n := 1) g.nd g.cb he (by have := (cntOf_ok g.cb he).2; omega)
  refine ⟨⟨step_flat g.nd (cntOf_ok g.cb he).1 g.fl, h1, h2⟩, funext h3, ?_⟩
  rw [stepK_eq g.nd]
  exact putK_keys (cntOf_ok g.cb he).1
def spBehind (K : PySem.W.Frag) (C CE CF CN CR CB : Addr) : Sp := fun vs H Q E => ∃ v y b, vs = [v, y, b] ∧ ((NoPlan K C H v ∧ Out CE "value" v E H) ∨ ∃ (p : Addr) (d : PlanD), v = .ref p ∧ PlanAt K C H p d ∧ PlanOk d ∧
  ((∃ t, TyX K H y t ∧ PySem.W.kitAny K t [.type "list", .type "tuple"] = some false ∧ ∀ H', Same H H' → Out CR "value" y E H') ∨
   (∃ (a : Addr) (xs : List V), y = .ref a ∧ Sq K H a xs ∧ xs.length ≤ 1000 ∧ (∀ x ∈ xs, RunItem K H x) ∧ xs.all (runB d) = false ∧ ∀ H', Same H H' → Out CR "value" y E H') ∨
   ∃ (a : Addr) (es : List Str), y = .ref a ∧ Sq K H a (es.map V.str) ∧ es.length ≤ 1000 ∧ (∀ e ∈ es, e ∈ d.evs) ∧
    ((b ≠ .non ∧ NoCounts K d H b ∧ ∀ H', Same H H' → Out CF "value" b E H') ∨ (∃ kvs, Counts d H b kvs ∧ momB d (cntOf kvs) = false ∧ ∀ H', Same H H' → Out CN "value" b E H') ∨
     ∃ kvs, ((b = .non ∧ kvs = mapC d.evs fun _ => 0) ∨ (Counts d H b kvs ∧ momB d (cntOf kvs) = true)) ∧ Going d kvs ∧
      (∀ i, walkC d (cntOf kvs) es 0 = .inr i → ∀ H', Same H H' → Out CB "index" (.int (i : Nat)) E H') ∧
      (∀ c, walkC d (cntOf kvs) es 0 = .inl c → ∀ q H' ks, Same H H' → H q = none → H' q = some (.dK ks) → Going d ks → ks.map (·.1) = kvs.map (·.1) → cntOf ks = c → Q (.ref q) H'))))
theorem runitem_str {d : PlanD} {H : Hp} {es : List Str} : ∀ x ∈ es.map V.str, RunItem K H x := by
  intro x hx
  obtain ⟨e, _, rfl⟩ := List.mem_map.mp hx
  exact .inl ⟨e, rfl⟩
theorem run_all {d : PlanD} {es : List Str} (h : ∀ e ∈ es, e ∈ d.evs) : (es.map V.str).all (runB d) = true := by
  rw [List.all_map, List.all_eq_true]
  intro e he
  exact decide_eq_true (h e he)
theorem runitem_same {H H' : Hp} {x : V} (h : RunItem K H x) (s : Same H H') : RunItem K H' x := by
  rcases h with h | ⟨h1, t, h2, h3⟩
  · exact .inl h
  · exact .inr ⟨h1, t, ty_same h2 s, h3⟩
theorem for_enumA {K : PySem.W.Frag} {a : Addr} {xs : List V} {ta : TA} {g : TG} {tb : TS} {D : Ends} {σ : L2.St} {H H0 : Hp} (Pv : Nat → L2.St → Hp → Prop) (he : ∀ Q : List V → Hp → Prop, Q [.ref a] H → ta σ H Q) (hq : Sq K H0 a xs) (h0 : Pv 0 σ H) (hG : ∀ i σ' H', i ≤ xs.length → Pv i σ' H' → ∀ o, H0 a = some o → H' a = some o)
    (hs : ∀ i x T σ' H', xs[i]? = some x → Pv i σ' H' → H' T = none → g (.ref T) σ' (upd H' T (.tup [.int (i : Nat), x])) fun σ2 H2 => tb { D with nx := Pv (i + 1), ct := Pv (i + 1), bk := D.nx } σ2 H2) (hd : ∀ σ' H', Pv xs.length σ' H' → D.nx σ' H') : tFor (iEnumS K ta) g tb D σ H := by
  rcases hq with hl | ht
  · refine .inl (he _ ⟨a, xs, rfl, sql_at hl (hG 0 _ _ (Nat.zero_le _) h0), for_it (Walk.mono (walk_enum (K := K) (a := a) (xs := xs)) (G' := fun H' => ∀ o, H0 a = some o → H' a = some o) (fun H' s => sql_at hl s) fun _ _ _ _ _ _ y => y) Pv h0 hG (fun i x σ' H1 H2 hi p y => ?_) hd⟩)
    obtain ⟨T, u, z, rfl, hT, rfl, hu, hz⟩ := y
    cases hu
    exact hs i z T σ' _ hz p hT
  · refine .inr (he _ ⟨a, xs, rfl, sqt_at ht (hG 0 _ _ (Nat.zero_le _) h0), for_it (Walk.mono (walk_enumT (K := K) (a := a) (xs := xs)) (G' := fun H' => ∀ o, H0 a = some o → H' a = some o) (fun H' s => sqt_at ht s) fun _ _ _ _ _ _ y => y) Pv h0 hG (fun i x σ' H1 H2 hi p y => ?_) hd⟩)
    obtain ⟨T, u, z, rfl, hT, rfl, hu, hz⟩ := y
    cases hu
    exact hs i z T σ' _ hz p hT
theorem ok_behind {C CE CF CN CR CB fB f : Addr} {fd : FuncData} (F : FunD K "behind" "behind" (defArgs s_behind) (defBody s_behind) (defScope s_behind) [] [("begin", .non)] f fd) (T : Txt mg)
    (cneed_plan : CalX P w K mg base 1 "need_plan" (spNeedPlan K C CE)) (cneed_run : CalX P w K mg base 2 "need_run" (spRun K C CR)) (cbeginning : CalX P w K mg base 8 "beginning" (spBegin K C CF CN)) (cwaits : Cal P w K mg base 2 "waits" (spWaits K C) [])
    (cis_ready : Cal P w K mg base 1 "is_ready" (spReady K) []) (PI : PlanI K C) (cLimits : CalM P w K mg base 1 C "limits" (spPLimits K C)) (e_Barred : ErrTxt K mg "Barred" "index" CB fB) :
    FnOk P w K mg base (L2.CX P w) 9 f fd ["plan", "run", "begin"] (spBehind K C CE CF CN CR CB) := by
  have nd := sc_behind.nd
  refine F.ok sc_behind (fun vs H Q E h => ?_) (fun cdv A outer s H vs Q E hr h => ?_)
  · obtain ⟨_, _, _, rfl, _⟩ := h
    rfl
  · obtain ⟨v, y, b, rfl, h⟩ := h
    have hu := hu_of hr
    refine ⟨_, (pss_cons (ps_expr (pe_cX cneed_plan (takes_of rfl rfl rfl rfl) hr (by decide) rfl (pa_cons (pv 0) pa_nil)))
      (pss_cons (ps_expr (pe_cX cneed_run (takes_of rfl rfl rfl rfl) hr (by decide) rfl (pa_cons (pv 0) (pa_cons (pv 1) pa_nil))))
      (pss_cut (ps_set (i := 3) nd rfl (Or.inl rfl) (pe_cX cbeginning (takes_of rfl rfl rfl rfl) hr (by decide) rfl (pa_cons (pv 0) (pa_cons (pv 2) pa_nil))))
      (pss_cons (ps_set (i := 4) nd rfl (Or.inl rfl) (pe_c cwaits hr (by decide) rfl (pa_cons (pv 0) pa_nil)))
      (pss_cons (ps_set (i := 5) nd rfl (Or.inl rfl) (pe_m0' (pv 0) PI.cls cLimits hr (by decide)))
      (pss_cons (ps_for (passes_of rfl) rfl (pi_enumS K rfl T.m_enumerate (pa_cons (pv 1) pa_nil)) (pg_tup rfl (pgs_cons (pg_name (i := 6) nd rfl (Or.inl rfl)) (pgs_cons (pg_name (i := 7) nd rfl (Or.inl rfl)) pgs_nil)))
      (pss_cons (ps_if (PW.pt (pw_or (pt_not (pt_val (pe_c cis_ready hr (by decide) rfl (pa_cons (pv 4) (pa_cons (pv 3) (pa_cons (pv 7) pa_nil)))))) (pw_or1 (pt_cmpR op_eq (pe_dget hu (pv 3) (pv 7) (fun _ _ => rfl)) (pe_dget1 hu (pv 5) (pv 7) ⟨by rfl, by rfl, by rfl, by rfl⟩) (by rfl)))))
      (pss_one (ps_raiseE rfl e_Barred hr (takes_of rfl rfl rfl rfl) (pa_cons (pv 6) pa_nil) rfl)) pss_nil)
      (pss_one (ps_daug hu (pv 3) (pv 7) pe_int in_add (fun _ _ _ => rfl)))))
      (pss_one (ps_ret (pv 3))))))))), ?_⟩
    rcases h with ⟨hn, e⟩ | ⟨p, d, rfl, hp, ok, h⟩
    · exact ⟨_, rfl, v, rfl, .inr ⟨hn, e⟩⟩
    refine ⟨_, rfl, _, rfl, .inl ⟨p, d, rfl, hp, ?_⟩⟩
    rcases h with ⟨t, ht, hk, e⟩ | ⟨a, xs, rfl, hq, hl, hx, hall, e⟩ | ⟨a, es, rfl, hq, hl, hin, h⟩
    · exact ⟨_, rfl, _, rfl, p, y, d, rfl, hp, .inl ⟨t, ht, hk, e⟩⟩
    · exact ⟨_, rfl, _, rfl, p, _, d, rfl, hp, .inr ⟨a, xs, rfl, hq, hl, hx, fun z => absurd z (by rw [hall]; decide), fun _ => e⟩⟩
    refine ⟨_, rfl, _, rfl, p, _, d, rfl, hp, .inr ⟨a, _, rfl, hq, by rw [List.length_map]; exact hl, runitem_str (d := d), fun _ H1 s1 => ?_, fun z => absurd z (by rw [run_all hin]; decide)⟩⟩
    have hp1 := hp.same s1
    rcases h with ⟨hb, hn, e⟩ | ⟨kvs, hc, hm, e⟩ | ⟨kvs, h0, g, qb, qo⟩
    · exact ⟨fun _ _ => False, ⟨_, rfl, _, rfl, p, b, d, rfl, hp1, ok, .inr (.inl ⟨hb, hn.same s1, fun H2 s2 => e _ (Same.trans s1 s2)⟩)⟩, fun _ _ z => z.elim⟩
    · exact ⟨fun _ _ => False, ⟨_, rfl, _, rfl, p, b, d, rfl, hp1, ok, .inr (.inr ⟨kvs, hc.same s1, fun _ H2 s2 => e _ (Same.trans s1 s2), fun z => absurd z (by rw [hm]; decide)⟩)⟩, fun _ _ z => z.elim⟩
    refine ⟨fun σ H' => Same H H' ∧ ∃ q, σ = [some (.ref p), some (.ref a), some b, some (.ref q), none, none, none, none] ∧ H q = none ∧ H' q = some (.dK kvs), ?_, ?_⟩
    · rcases h0 with ⟨rfl, rfl⟩ | ⟨hc, hm⟩
      · exact ⟨_, rfl, _, rfl, p, _, d, rfl, hp1, ok, .inl ⟨rfl, fun q H2 s2 nq hq2 => ⟨Same.trans s1 s2, q, rfl, s1.free nq, hq2⟩⟩⟩
      · exact ⟨_, rfl, _, rfl, p, b, d, rfl, hp1, ok, .inr (.inr ⟨kvs, hc.same s1, fun z => absurd z (by rw [hm]; decide), fun _ q H2 s2 nq hq2 => ⟨Same.trans s1 s2, q, rfl, s1.free nq, hq2⟩⟩)⟩
    rintro σ H2 ⟨s2, q, rfl, nq0, hq2⟩
    have m0 : momB d (cntOf kvs) = true := by
      rcases h0 with ⟨_, rfl⟩ | ⟨_, h⟩
      · exact zero_momB ok
      · exact h
    refine seq_asg ?_
    have hp2 := hp.same s2
    refine ⟨_, rfl, p, d, rfl, hp2, ok, fun w H3 s3 hw => ?_⟩
    have sN : Same (newP H2 H3) H3 := newP_same
    have nq : newP H2 H3 q = none := newP_old hq2
    have hq3 := s3 _ _ hq2
    have s03 := Same.trans s2 s3
    revert sN nq hw
    generalize newP H2 H3 = N
    intro hw sN nq
    refine gname (seq_asg ?_)
    have hp3 := hp.same s03
    obtain ⟨dx, o, r, cc, ts0, g1, _⟩ := id hp3.ex
    refine ⟨_, rfl, p, dx, _, rfl, g1, rfl, p, d, rfl, hp3, fun m nm => ?_⟩
    have hm4 : (upd H3 m (.dK (capsV d.caps))) m = some (.dK (capsV d.caps)) := upd_same
    have s04 : Same H (upd H3 m (.dK (capsV d.caps))) := Same.trans s03 (same_upd nm)
    have sN4 : Same N (upd H3 m (.dK (capsV d.caps))) := Same.trans sN (same_upd nm)
    have hq4 : (upd H3 m (.dK (capsV d.caps))) q = some (.dK kvs) := same_upd nm _ _ hq3
    have hmq : m ≠ q := Ne.symm (ne_of_none hq3 nm)
    revert hm4 s04 sN4 hq4
    generalize upd H3 m (.dK (capsV d.caps)) = H4
    intro hm4 s04 sN4 hq4
    clear nm g1 hp3 hq3 sN s03 s3 hq2 s2 hp2 hp1 s1
    refine gname (seq_st (for_enumA (H0 := H) (xs := es.map V.str) (fun i σ H' => Same H H' ∧ Same N H' ∧ H' m = some (.dK (capsV d.caps)) ∧ ∃ ks v6 v7, σ = [some (.ref p), some (.ref a), some b, some (.ref q), some (.ref w), some (.ref m), v6, v7] ∧ H' q = some (.dK ks) ∧ Going d ks ∧ momB d (cntOf ks) = true ∧ ks.map (·.1) = kvs.map (·.1) ∧ walkC d (cntOf kvs) es 0 = walkC d (cntOf ks) (es.drop i) i) (fun Q hQ => ⟨_, rfl, hQ⟩) hq ⟨s04, sN4, hm4, kvs, none, none, rfl, hq4, g, m0, rfl, rfl⟩ (fun _ _ _ _ p => p.1 _) (fun i x T1 σ H5 hx pv n1 => ?_) (fun σ H5 pv => ?_)))
    · obtain ⟨s5, sN5, hm5, ks, v6, v7, rfl, hq5, g5, m5, k5, w5⟩ := pv
      have hi := (List.getElem?_eq_some_iff.mp hx).1
      rw [List.length_map] at hi
      rw [List.getElem?_map, List.getElem?_eq_getElem hi] at hx
      cases hx
      have hm := hin _ (List.getElem_mem hi)
      have st : Same H5 (upd H5 T1 (.tup [.int (i : Nat), .str es[i]])) := same_upd n1
      have s6 : Same H (upd H5 T1 (.tup [.int (i : Nat), .str es[i]])) := Same.trans s5 st
      have sN6 : Same N (upd H5 T1 (.tup [.int (i : Nat), .str es[i]])) := Same.trans sN5 st
      have hq6 := st _ _ hq5
      have hm6 := st _ _ hm5
      have hT6 : (upd H5 T1 (.tup [.int (i : Nat), .str es[i]])) T1 = some (.tup [.int (i : Nat), .str es[i]]) := upd_same
      revert s6 sN6 hq6 hm6 hT6
      clear st
      generalize upd H5 T1 (.tup [.int (i : Nat), .str es[i]]) = H6
      intro s6 sN6 hq6 hm6 hT6
      have hc := (cntOf_ok g5.cb hm)
      have hlen : ks.length ≤ 1000 := by
        have h1 := g5.cb
        unfold countsB at h1
        have h2 := of_decide_eq_true (Bool.and_eq_true_iff.mp h1).1
        have := ok.evs.hi
        omega
      rw [List.drop_eq_getElem_cons hi] at w5
      have w6 : walkC d (cntOf kvs) es 0 = if momB d (upC (cntOf ks) es[i] 1) = true then walkC d (upC (cntOf ks) es[i] 1) (es.drop (i + 1)) (i + 1) else .inr i := w5
      refine ⟨T1, _, rfl, .inl (.inl hT6), rfl, _, _, rfl, _, _, rfl, rfl, ?_⟩
      have bad : momB d (upC (cntOf ks) es[i] 1) = false → ∀ H7, Same H6 H7 → Out CB "index" (.int (i : Nat)) E H7 := fun hb H7 s7 => by
        rw [if_neg (by rw [hb]; decide)] at w6
        exact qb i w6 _ (Same.trans s6 s7)
      refine ⟨_, rfl, _, rfl, _, rfl, w, q, es[i], d, ks, rfl, hw.same sN6, ok, hm, hq6, g5.cb, fun H7 s7 => ?_⟩
      cases hb : readyB d (cntOf ks) es[i] with
      | false =>
        exact ⟨_, rfl, _, rfl, _, rfl, bad (not_ready ok hm hb) _ s7⟩
      | true =>
        refine ⟨_, rfl, _, rfl, _, rfl, q, _, rfl, .inl ⟨ks, .inr es[i], .inl (s7 _ _ hq6), rfl, hc.1.symm⟩, _, rfl, m, rfl, .inl ⟨_, .inl (s7 _ _ hm6)⟩, _, rfl, _, .inl ⟨capsV d.caps, .inr es[i], .inl (s7 _ _ hm6), rfl, rfl⟩, ?_⟩
        have scl : ∀ r : V, (valV (capsV d.caps) (.inr es[i])).getD .non = r → scal (.int (cntOf ks es[i])) r = true := fun r hr => by
          cases hv : valV (capsV d.caps) (.inr es[i]) with
          | none => rw [hv] at hr; subst hr; rfl
          | some v =>
            obtain ⟨pv, hpv, e1⟩ := valV_in hv
            unfold capsV at hpv
            obtain ⟨cq, _, rfl⟩ := List.mem_map.mp hpv
            rw [hv, ← e1] at hr
            subst hr
            rfl
        refine ⟨scl _ rfl, _, rfl, ite2 (fun e1 => ?_) (fun e1 => ?_)⟩
        · have e2 : V.int (cntOf ks es[i]) = (valV (capsV d.caps) (.inr es[i])).getD .non := of_decide_eq_true e1
          refine ⟨_, rfl, _, rfl, bad (full_mom hm ?_) _ s7⟩
          cases hv : valV (capsV d.caps) (.inr es[i]) with
          | none => rw [hv] at e2; cases e2
          | some v =>
            rw [hv] at e2
            have e3 : V.int (cntOf ks es[i]) = v := e2
            subst e3
            obtain ⟨q1, hq1, e4⟩ := capsV_some (cs := d.caps) (e := es[i]) (by rw [hv]; rfl)
            have h1 := valV_mem ok.cnd hq1
            rw [e4, hv] at h1
            injection h1 with h1
            injection h1 with h1
            exact ⟨q1, hq1, e4, h1.symm⟩
        · have hmom : momB d (upC (cntOf ks) es[i] 1) = true := is_ready_mom ok m5 hb fun q1 hq1 e4 => by
            have h1 := valV_mem ok.cnd hq1
            rw [e4] at h1
            have h2 : cntOf ks es[i] ≠ q1.2 := fun z => e1 (decide_eq_true (by rw [h1, z]; rfl))
            have h3 : ¬ capBad (cntOf ks) d.caps es[i] := (momB_iff.mp m5).2 _ hm
            have h4 : ¬ q1.2 < cntOf ks es[i] := fun z => h3 ⟨q1, hq1, e4, z⟩
            omega
          rw [if_pos hmom] at w6
          obtain ⟨g7, c7, k7⟩ := going_step g5 hm
          rw [stepK_eq g5.nd] at g7 c7 k7
          refine ⟨_, rfl, _, rfl, q, _, rfl, .inl ⟨ks, .inr es[i], .inl (s7 _ _ hq6), rfl, hc.1.symm⟩, _, _, rfl, rfl, _, .inl ⟨ks, .inr es[i], s7 _ _ hq6, rfl, Nat.lt_of_lt_of_le (Nat.lt_succ_of_le hlen) (sz 1001), rfl⟩, same_put nq0 (Same.trans s6 s7), same_put nq (Same.trans sN6 s7), ?_, _, _, _, rfl, upd_same, g7, by rw [c7]; exact hmom, k7.trans k5, by rw [c7]; exact w6⟩
          rw [upd_ne hmq]
          exact s7 _ _ hm6
    · obtain ⟨s5, sN5, hm5, ks, v6, v7, rfl, hq5, g5, m5, k5, w5⟩ := pv
      rw [List.length_map, List.drop_length] at w5
      exact ⟨_, rfl, qo _ w5 q H5 ks s5 nq0 hq5 g5 k5 rfl⟩

end
end Pk

set_option Elab.async false
set_option linter.all false
set_option maxRecDepth 100000
set_option maxHeartbeats 4000000
namespace Pk
open PySem PySem.Spec PyProof.Rows L2 Pu
open PySem.Er (ErrTxt)
abbrev s_next_towards : Stmt := topS 55
theorem sc_next_towards : FnScope ["awaited", "counts", "goal", "wanted", "able", "event"] ["awaited", "counts", "goal"] (defScope s_next_towards) := ⟨rfl, rfl, rfl, by decide +kernel, rfl, by decide +kernel, by decide +kernel⟩

section
variable {P : Program} {w : World} {K : PySem.W.Frag} {mg : Str → Option Value} {base : Heap}
/-! ### next_towards -/
def ableE (d : PlanD) (c g : Str → Int) : List Str := (d.evs.filter fun e => decide (c e < g e)).filter fun e => momB d (upC c e 1)
theorem able_eq {d : PlanD} (ok : PlanOk d) {c g : Str → Int} (hc : momB d c = true) (hg : momB d g = true) : ((d.evs.filter fun e => decide (c e < g e)).filter fun e => readyB d c e) = ableE d c g := by
  refine List.filter_congr fun e he => ?_
  obtain ⟨h1, h2⟩ := List.mem_filter.mp he
  have h2 := of_decide_eq_true h2
  cases hb : readyB d c e with
  | false => exact (not_ready ok h1 hb).symm
  | true =>
    refine (is_ready_mom ok hc hb fun q hq e1 => ?_).symm
    have h3 : ¬ capBad g d.caps e := (momB_iff.mp hg).2 _ h1
    have h4 : ¬ q.2 < g e := fun z => h3 ⟨q, hq, e1, z⟩
    omega
def spNext (K : PySem.W.Frag) : Sp := fun vs H Q _ => ∃ (v a b : Addr) (d : PlanD) (ks gs : List (Key × V)) (e : Str) (r : List Str), vs = [.ref v, .ref a, .ref b] ∧ Waits d H v ∧ PlanOk d ∧ H a = some (.dK ks) ∧ Going d ks ∧ H b = some (.dK gs) ∧ countsB d.evs gs = true ∧
  momB d (cntOf ks) = true ∧ momB d (cntOf gs) = true ∧ ableE d (cntOf ks) (cntOf gs) = e :: r ∧ ∀ H', Same H H' → Q (.str e) H'
/-- counts are no dict of lists -/
theorem cnt_ne {d : PlanD} {H : Hp} {v a : Addr} {f : Str → Addr} {ks : List (Key × V)} (hv : H v = some (.dK (mapF d.evs f))) (ha : H a = some (.dK ks)) (hc : countsB d.evs ks = true) (h1 : 1 ≤ d.evs.length) : a ≠ v := fun z => by
  subst z
  rw [hv] at ha
  cases ha
  obtain ⟨e, he⟩ : ∃ e, e ∈ d.evs := ⟨d.evs[0], List.getElem_mem _⟩
  have h2 := (cntOf_ok hc he).1
  rw [valV_mapF he] at h2
  cases h2
theorem same_unlock {H H' : Hp} {q : Addr} {u v : HO} (hq : H q = some u) (s : Same (upd H q v) H') : Same H (upd H' q u) := fun b o hb => by
  by_cases e : b = q
  · rw [e] at hb ⊢
    rw [hq] at hb
    rw [← hb]
    exact upd_same
  · rw [upd_ne e]
    exact s b o (by rw [upd_ne e]; exact hb)
theorem walk_mapF {K : PySem.W.Frag} {v : Addr} {od : Obj} {es : List Str} {f : Str → Addr} : Walk (Itk v od (mapF es f)) es.length (fun H' => H' v = some (.frz od (.dK (mapF es f)))) (YAt (es.map V.str)) := by
  have wk := (walk_keys (d := v) (o := od) (kvs := mapF es f)).mono (fun _ h => h) (Y' := YAt (es.map V.str)) fun i Ha x Hb hi _ y => by
    obtain ⟨rfl, k, u, hk, rfl⟩ := y
    refine ⟨rfl, ?_⟩
    unfold mapF at hk
    rw [List.getElem?_map] at hk
    rw [List.getElem?_map]
    cases e : es[i]? with
    | none => rw [e] at hk; cases hk
    | some s => rw [e] at hk; cases hk; rfl
  have hl : (mapF es f).length = es.length := List.length_map ..
  rw [hl] at wk
  exact wk
theorem ok_next {f : Addr} {fd : FuncData} (F : Fun K "next_towards" "next_towards" s_next_towards f fd) (T : Txt mg) (cis_ready : Cal P w K mg base 1 "is_ready" (spReady K) []) : FnOk P w K mg base CX0 2 f fd ["awaited", "counts", "goal"] (spNext K) := by
  have nd := sc_next_towards.nd
  refine F.ok sc_next_towards (fun vs H Q E h => ?_) (fun cdv A outer s H vs Q E hr h => ?_)
  · obtain ⟨_, _, _, _, _, _, _, _, rfl, _⟩ := h
    rfl
  · obtain ⟨v, cA, cB, d, kvs, gs, e0, r0, rfl, hw, ok, hcA, ⟨hcF, hcB, hnd⟩, hg, hgB, mk, mg', hab, q2⟩ := h
    have hl := ok.evs.hi
    have hl1 := ok.evs.lo
    have hu := hu_of hr
    refine ⟨_, (pss_cons (ps_lock (ps_setLc (i := 3) (y := "wanted") (own := [("event", 5)]) (g := gName 5) rfl nd rfl rfl (sw_true rfl rfl rfl (by decide +kernel)) (pi_keys (pv 0)) (blkOk_by (N := ["awaited", "counts", "goal", "wanted", "able", "event"]) (sc := defScope s_next_towards) (by decide +kernel)) (fun _ _ _ _ _ => pg_name (i := 5) nd rfl (Or.inl rfl)) (fun _ _ _ _ _ => pts_one (pt_cmpR op_lt (pe_dget hu (pv 1) (pv 5) (fun _ _ => rfl)) (pe_dget hu (pv 2) (pv 5) (fun _ _ => rfl)) (by rfl))) (fun _ _ _ _ _ => (pv 5))))
      (pss_cons (ps_setLc (i := 4) (y := "able") (own := [("event", 5)]) (g := gName 5) rfl nd rfl rfl (sw_true rfl rfl rfl (by decide +kernel)) (pi_list (pv 3)) (blkOk_by (N := ["awaited", "counts", "goal", "wanted", "able", "event"]) (sc := defScope s_next_towards) (by decide +kernel)) (fun _ _ _ _ _ => pg_name (i := 5) nd rfl (Or.inl rfl)) (fun _ _ _ _ _ => pts_one (pt_val (pe_c cis_ready hr (by decide) rfl (pa_cons (pv 0) (pa_cons (pv 1) (pa_cons (pv 5) pa_nil)))))) (fun _ _ _ _ _ => (pv 5)))
      (pss_one (ps_ret (pe_ix (ixL K) (pv 4) pe_int (fun _ _ => rfl)))))), ?_⟩
    rw [← able_eq ok mk mg'] at hab
    have hw0 := hw
    obtain ⟨f, hv, _⟩ := hw
    have hAv := cnt_ne hv hcA hcB hl1
    have hBv := cnt_ne hv hg hgB hl1
    refine ⟨v, _, hv, trivial, fun od => ?_⟩
    have hz8 : d.evs.length < sizeLine := Nat.lt_of_lt_of_le (by omega) (sz 100)
    have hc2 : (upd H v (.frz od (.dK (mapF d.evs f)))) v = some (.frz od (.dK (mapF d.evs f))) := upd_same
    have hA2 : (upd H v (.frz od (.dK (mapF d.evs f)))) cA = some (.dK kvs) := by rw [upd_ne hAv]; exact hcA
    have hB2 : (upd H v (.frz od (.dK (mapF d.evs f)))) cB = some (.dK gs) := by rw [upd_ne hBv]; exact hg
    refine ⟨_, rfl, v, od, rfl, .inl ⟨_, hc2, fun D hD => ?_⟩⟩
    refine lc_fm (keep := fun e => decide (cntOf kvs e < cntOf gs e)) (f := V.str) (v := V.str) (xs := d.evs) (walk_mapF (K := K)) hD (fun H' s => s _ _ hc2) hz8 (fun _ => rfl) (fun e he H' s N M hN hM => ?_) fun H3 s3 hD3 => ?_
    · refine ⟨_, rfl, _, rfl, cA, _, rfl, .inl ⟨kvs, .inr e, .inl (s _ _ hA2), rfl, (cntOf_ok hcB he).1.symm⟩, _, rfl, _, rfl, cB, _, rfl, .inl ⟨gs, .inr e, .inl (s _ _ hB2), rfl, (cntOf_ok hgB he).1.symm⟩, _, _, rfl, rfl, _, rfl, ?_⟩
      cases hb : decide (cntOf kvs e < cntOf gs e) with
      | true => exact ⟨_, rfl, hN hb _ (Same.refl _)⟩
      | false => exact hM hb _ (Same.refl _)
    have s4 := same_unlock hv s3
    have hDv : D ≠ v := fun z => by
      rw [z, upd_same] at hD
      cases hD
    have hD4 : (upd H3 v (.dK (mapF d.evs f))) D = some (.lst ((d.evs.filter fun e => decide (cntOf kvs e < cntOf gs e)).map V.str)) := by
      rw [upd_ne hDv]
      exact hD3
    refine ⟨s3 _ _ hc2, ?_⟩
    revert s4 hD4
    generalize upd H3 v (.dK (mapF d.evs f)) = H4
    intro s4 hD4
    have hmem : ∀ e ∈ d.evs.filter (fun e => decide (cntOf kvs e < cntOf gs e)), e ∈ d.evs := fun e he => (List.mem_filter.mp he).1
    have hl8 : (d.evs.filter (fun e => decide (cntOf kvs e < cntOf gs e))).length ≤ 8 := Nat.le_trans (List.length_filter_le _ _) hl
    revert hab hD4 hmem hl8
    clear hD3 hD hDv s3
    generalize d.evs.filter (fun e => decide (cntOf kvs e < cntOf gs e)) = ys
    intro hab hD4 hmem hl8
    have wl := walk_list (K := K) (a := D) (xs := ys.map V.str)
    rw [List.length_map] at wl
    refine ⟨_, rfl, D, rfl, ⟨_, .inl (.inl hD4)⟩, fun D2 hD2 => ?_⟩
    refine lc_fm (keep := fun e => readyB d (cntOf kvs) e) (f := V.str) (v := V.str) (xs := ys) wl hD2 (fun H' s => .inl (.inl (s _ _ hD4))) (Nat.lt_of_le_of_lt hl8 (Nat.lt_of_lt_of_le (by decide : 8 < 100) (sz 100))) (fun _ => rfl) (fun e he H' s N M hN hM => ?_) fun H5 s5 hD5 => ?_
    · have s05 := Same.trans s4 s
      refine ⟨_, rfl, _, rfl, _, rfl, v, cA, e, d, kvs, rfl, hw0.same s05, ok, hmem e he, s05 _ _ hcA, hcB, fun H6 s6 => ⟨_, rfl, ?_⟩⟩
      cases hb : readyB d (cntOf kvs) e with
      | true => exact ⟨_, rfl, hN hb _ s6⟩
      | false => exact hM hb _ s6
    · rw [hab] at hD5
      exact ⟨_, rfl, D2, _, ((0 : Nat) : Int), .str e0, rfl, rfl, .inl (.inl hD5), (show atI (V.str e0 :: r0.map V.str) ((0 : Nat) : Int) = some (.str e0) from atI_nat rfl), q2 _ (Same.trans s4 s5)⟩
/-! ### one of the wanted events can always come -/
theorem can_come {d : PlanD} (ok : PlanOk d) {c g : Str → Int} (hc : momB d c = true) (hg : momB d g = true) (h0 : ∀ e ∈ d.evs, 0 ≤ c e) {ρ : Str → Nat} (hρ : ∀ t ∈ d.ties, t.2.2 = 0 → ρ t.1 < ρ t.2.1) :
    ∀ n m e, e ∈ d.evs → c e < g e → (c e).toNat = n → ρ e = m → ∃ x ∈ d.evs, c x < g x ∧ momB d (upC c x 1) = true := by
  obtain ⟨c1, c2⟩ := momB_iff.mp hc
  obtain ⟨g1, g2⟩ := momB_iff.mp hg
  intro n
  induction n using Nat.strongRecOn with
  | _ n ihn =>
    intro m
    induction m using Nat.strongRecOn with
    | _ m ihm =>
      intro e he hlt hn hm
      by_cases hb : momB d (upC c e 1) = true
      · exact ⟨e, he, hlt, hb⟩
      · have hex : ∃ t ∈ d.ties, tieBad (upC c e 1) t := by
          refine Classical.byContradiction fun hno => hb (momB_iff.mpr ⟨fun t ht hbad => hno ⟨t, ht, hbad⟩, fun x hx hcap => ?_⟩)
          obtain ⟨q, hq, e1, l1⟩ := hcap
          by_cases hxe : x = e
          · subst hxe
            have l2 : q.2 < c x + 1 := by
              have : upC c x 1 x = c x + 1 := if_pos rfl
              rw [this] at l1
              exact l1
            exact g2 x hx ⟨q, hq, e1, by omega⟩
          · have : upC c e 1 x = c x := if_neg hxe
            rw [this] at l1
            exact c2 x hx ⟨q, hq, e1, l1⟩
        obtain ⟨t, ht, hbad⟩ := hex
        obtain ⟨i1, i2, i3⟩ := ok.tin t ht
        have nc := c1 t ht
        have ng := g1 t ht
        unfold tieBad at hbad nc ng
        unfold upC at hbad
        by_cases h2 : t.2.1 = e
        · by_cases h1 : t.1 = e
          · rw [if_pos h1, if_pos h2] at hbad
            omega
          · rw [if_neg h1, if_pos h2] at hbad
            rw [h2] at nc ng
            have w1 : c t.1 < g t.1 := by omega
            have p1 := h0 _ i1
            have p2 := h0 _ he
            by_cases hz : t.2.2 = 0
            · have r1 := hρ t ht hz
              rw [h2, hm] at r1
              exact ihm (ρ t.1) r1 t.1 i1 w1 (by omega) rfl
            · exact ihn (c t.1).toNat (by omega) (ρ t.1) t.1 i1 w1 rfl rfl
        · rw [if_neg h2] at hbad
          by_cases h1 : t.1 = e
          · rw [if_pos h1] at hbad
            rw [h1] at nc
            omega
          · rw [if_neg h1] at hbad
            omega
theorem able_some {d : PlanD} (ok : PlanOk d) {c g : Str → Int} (hc : momB d c = true) (hg : momB d g = true) (h0 : ∀ e ∈ d.evs, 0 ≤ c e) {e : Str} (he : e ∈ d.evs) (hlt : c e < g e) : ∃ x r, ableE d c g = x :: r ∧ x ∈ d.evs ∧ c x < g x ∧ momB d (upC c x 1) = true := by
  obtain ⟨ρ, hρ⟩ := ok.up
  obtain ⟨x, hx, h1, h2⟩ := can_come ok hc hg h0 hρ _ _ e he hlt rfl rfl
  have hm : x ∈ ableE d c g := List.mem_filter.mpr ⟨List.mem_filter.mpr ⟨hx, decide_eq_true h1⟩, h2⟩
  cases hl : ableE d c g with
  | nil => rw [hl] at hm; cases hm
  | cons z r =>
    have hz : z ∈ ableE d c g := by rw [hl]; exact List.mem_cons_self ..
    have h3 := List.mem_filter.mp hz
    have h4 := List.mem_filter.mp h3.1
    exact ⟨z, r, rfl, h4.1, of_decide_eq_true h4.2, h3.2⟩

end
end Pk

set_option Elab.async false
set_option linter.all false
set_option maxRecDepth 100000
set_option maxHeartbeats 4000000
namespace Pk
open PySem PySem.Spec PyProof.Rows L2 Pu
open PySem.Er (ErrTxt)
abbrev s_way_between : Stmt := topS 56
theorem sc_way_between : FnScope ["plan", "begin", "goal", "awaited", "counts", "run", "event", "step"] ["plan", "begin", "goal"] (defScope s_way_between) := ⟨rfl, rfl, rfl, by decide +kernel, rfl, by decide +kernel, by decide +kernel⟩
abbrev s_run_to : Stmt := topS 57
theorem sc_run_to : FnScope ["plan", "counts", "begin", "first", "total", "event"] ["plan", "counts", "begin"] (defScope s_run_to) := ⟨rfl, rfl, rfl, by decide +kernel, rfl, by decide +kernel, by decide +kernel⟩

section
variable {P : Program} {w : World} {K : PySem.W.Frag} {mg : Str → Option Value} {base : Heap}
/-! ### run_to -/
theorem walkC_snoc {d : PlanD} : ∀ {es : List Str} {c c1 : Str → Int} {e : Str} {i : Nat}, walkC d c es i = .inl c1 → momB d (upC c1 e 1) = true → walkC d c (es ++ [e]) i = .inl (upC c1 e 1)
  | [], c, c1, e, i, h, hb => by
    cases h
    show (if momB d (upC c e 1) = true then Sum.inl (upC c e 1) else Sum.inr i) = _
    rw [if_pos hb]
  | x :: r, c, c1, e, i, h, hb => by
    have h : (if momB d (upC c x 1) = true then walkC d (upC c x 1) r (i + 1) else .inr i) = .inl c1 := h
    show (if momB d (upC c x 1) = true then walkC d (upC c x 1) (r ++ [e]) (i + 1) else .inr i) = _
    by_cases hx : momB d (upC c x 1) = true
    · rw [if_pos hx] at h
      rw [if_pos hx]
      exact walkC_snoc h hb
    · rw [if_neg hx] at h
      cases h
def gapS (es : List Str) (c g : Str → Int) : Int := (es.map fun e => g e - c e).sum
theorem gap_cons (x : Str) (r : List Str) (c g : Str → Int) : gapS (x :: r) c g = (g x - c x) + gapS r c g := by
  unfold gapS
  rw [List.map_cons, List.sum_cons]
theorem gap_up0 {c g : Str → Int} {x : Str} : ∀ {es : List Str}, x ∉ es → gapS es (upC c x 1) g = gapS es c g
  | [], _ => rfl
  | y :: r, h => by
    have h1 : ¬ y = x := fun e => h (by rw [e]; exact List.mem_cons_self ..)
    have h2 : x ∉ r := fun e => h (List.mem_cons_of_mem _ e)
    rw [gap_cons, gap_cons, gap_up0 h2]
    show g y - (if y = x then c x + 1 else c y) + _ = _
    rw [if_neg h1]
theorem gap_up {c g : Str → Int} {x : Str} : ∀ {es : List Str}, es.Nodup → x ∈ es → gapS es (upC c x 1) g = gapS es c g - 1
  | y :: r, hn, h => by
    rw [List.nodup_cons] at hn
    rw [gap_cons, gap_cons]
    by_cases e : y = x
    · rw [gap_up0 (by rw [← e]; exact hn.1)]
      show g y - (if y = x then c x + 1 else c y) + _ = _
      rw [if_pos e, e]
      omega
    · have h2 : x ∈ r := by
        rcases List.mem_cons.mp h with z | z
        · exact absurd z.symm e
        · exact z
      rw [gap_up hn.2 h2]
      show g y - (if y = x then c x + 1 else c y) + _ = _
      rw [if_neg e]
      omega
theorem gap_nn {c g : Str → Int} : ∀ {es : List Str}, (∀ e ∈ es, c e ≤ g e) → 0 ≤ gapS es c g
  | [], _ => Int.le_refl _
  | y :: r, h => by
    have h1 := h y (List.mem_cons_self ..)
    have h2 := gap_nn (es := r) fun e he => h e (List.mem_cons_of_mem _ he)
    rw [gap_cons]
    omega
theorem gap_pos {c g : Str → Int} : ∀ {es : List Str}, 0 < gapS es c g → ∃ e ∈ es, c e < g e
  | [], h => absurd h (Int.lt_irrefl 0)
  | y :: r, h => by
    rw [gap_cons] at h
    by_cases h1 : c y < g y
    · exact ⟨y, List.mem_cons_self .., h1⟩
    · obtain ⟨e, he, h2⟩ := gap_pos (c := c) (g := g) (es := r) (by omega)
      exact ⟨e, List.mem_cons_of_mem _ he, h2⟩
theorem gap_zero {c g : Str → Int} : ∀ {es : List Str}, (∀ e ∈ es, c e ≤ g e) → gapS es c g = 0 → ∀ e ∈ es, c e = g e
  | [], _, _ => fun _ he => absurd he List.not_mem_nil
  | y :: r, h, hz => by
    have h1 := h y (List.mem_cons_self ..)
    have h2 := gap_nn (es := r) fun e he => h e (List.mem_cons_of_mem _ he)
    rw [gap_cons] at hz
    intro e he
    rcases List.mem_cons.mp he with z | z
    · rw [z]
      omega
    · exact gap_zero (es := r) (fun e he => h e (List.mem_cons_of_mem _ he)) (by omega) e z
/-! ### way_between -/
/-- on the way from one moment to the other: what has come behind i events -/
def WayInv (d : PlanD) (kvs gs : List (Key × V)) (p a b v q r : Addr) (H : Hp) (i : Nat) (σ : L2.St) (H' : Hp) : Prop := Same H H' ∧ ∃ ks es v6 v7, σ = [some (.ref p), some (.ref a), some (.ref b), some (.ref v), some (.ref q), some (.ref r), v6, v7] ∧ H' q = some (.dK ks) ∧ Going d ks ∧ momB d (cntOf ks) = true ∧
  H' r = some (.lst (es.map V.str)) ∧ (∀ e ∈ es, e ∈ d.evs) ∧ walkC d (cntOf kvs) es 0 = .inl (cntOf ks) ∧ es.length = i ∧ gapS d.evs (cntOf ks) (cntOf gs) + i = gapS d.evs (cntOf kvs) (cntOf gs) ∧ (∀ e ∈ d.evs, cntOf ks e ≤ cntOf gs e)
def spWayTo (K : PySem.W.Frag) (C : Addr) : Sp := fun vs H Q _ => ∃ (p a b : Addr) (d : PlanD) (kvs gs : List (Key × V)), vs = [.ref p, .ref a, .ref b] ∧ PlanAt K C H p d ∧ PlanOk d ∧ H a = some (.dK kvs) ∧ Going d kvs ∧ momB d (cntOf kvs) = true ∧ H b = some (.dK gs) ∧ countsB d.evs gs = true ∧ momB d (cntOf gs) = true ∧
  (∀ e ∈ d.evs, cntOf kvs e ≤ cntOf gs e) ∧ gapS d.evs (cntOf kvs) (cntOf gs) ≤ 200 ∧
  ∀ q es c H', Same H H' → H q = none → H' q = some (.lst (es.map V.str)) → (es.length : Int) = gapS d.evs (cntOf kvs) (cntOf gs) → (∀ e ∈ es, e ∈ d.evs) → walkC d (cntOf kvs) es 0 = .inl c → (∀ e ∈ d.evs, c e = cntOf gs e) → Q (.ref q) H'
theorem ok_way {C f : Addr} {fd : FuncData} (F : Fun K "way_between" "way_between" s_way_between f fd) (T : Txt mg) (cwaits : Cal P w K mg base 2 "waits" (spWaits K C) []) (cnext_towards : Cal P w K mg base 2 "next_towards" (spNext K) []) : FnOk P w K mg base CX0 3 f fd ["plan", "begin", "goal"] (spWayTo K C) := by
  have nd := sc_way_between.nd
  refine F.ok sc_way_between (fun vs H Q E h => ?_) (fun cdv A outer s H vs Q E hr h => ?_)
  · obtain ⟨_, _, _, _, _, _, rfl, _⟩ := h
    rfl
  · obtain ⟨p, a, b, d, kvs, gs, rfl, hp, ok, ha, g, hm, hb, hgB, mgs, hle, hle2, qo⟩ := h
    have hu := hu_of hr
    have hl := ok.evs.hi
    refine ⟨_, (pss_cons (ps_set (i := 3) nd rfl (Or.inl rfl) (pe_c cwaits hr (by decide) rfl (pa_cons (pv 0) pa_nil)))
      (pss_cons (ps_set (i := 4) nd rfl (Or.inl rfl) (pe_callTy call_dictD (by rfl) T.m_dict PyProof.Rows.boot_dict (pa_cons (pv 1) pa_nil)))
      (pss_cons (ps_set (i := 5) nd rfl (Or.inl rfl) (pe_lst pa_nil))
      (pss_cons (ps_for PassesOwn.never rfl (pi_range1 rfl T.m_range (pa_cons (pe_callB (cr_sum rfl) (by rfl) T.m_sum PyProof.Rows.boot_sum (pa_cons (pe_lock (pe_lc (own := [("event", 6)]) (g := gName 6) (tt := tYes) rfl nd (pi_keys (pv 3)) (blkOk_by (N := ["plan", "begin", "goal", "awaited", "counts", "run", "event", "step"]) (sc := defScope s_way_between) (by decide +kernel)) (fun _ _ _ _ _ => pg_name (i := 6) nd rfl (Or.inl rfl)) (fun _ _ _ _ _ => pts_nil) (fun _ _ _ _ _ => (pe_op op_sub (pe_dget hu (pv 2) (pv 6) (fun _ _ => rfl)) (pe_dget hu (pv 1) (pv 6) (fun _ _ => rfl)))))) pa_nil)) pa_nil)) (pg_name (i := 7) nd rfl (Or.inl rfl))
      (pss_cons (ps_set (i := 6) nd rfl (Or.inl rfl) (pe_c cnext_towards hr (by decide) rfl (pa_cons (pv 3) (pa_cons (pv 4) (pa_cons (pv 2) pa_nil)))))
      (pss_cons (ps_daug hu (pv 4) (pv 6) pe_int in_add (fun _ _ _ => rfl))
      (pss_one (ps_expr (pe_bm PySem.F.plainAttrs_list PySem.F.slot_list_append PySem.F.type_list_append mt_append (pv 5) (pa_cons (pv 6) pa_nil)))))))
      (pss_one (ps_ret (pv 5))))))), ?_⟩
    refine seq_asg ?_
    refine ⟨_, rfl, p, d, rfl, hp, ok, fun v H1 s1 hw => ?_⟩
    have hw := hw.same newP_same
    refine gname (seq_asg ?_)
    have ha1 := s1 _ _ ha
    refine ⟨_, rfl, a, kvs, rfl, .inl ha1, fun q nq => ?_⟩
    have hq2 : (upd H1 q (.dK kvs)) q = some (.dK kvs) := upd_same
    have s2 : Same H1 (upd H1 q (.dK kvs)) := same_upd nq
    refine gname (seq_asg ?_)
    refine ⟨sz 0, fun r nr => ?_⟩
    have hr3 : (upd (upd H1 q (.dK kvs)) r (.lst [])) r = some (.lst []) := upd_same
    have s3 : Same H1 (upd (upd H1 q (.dK kvs)) r (.lst [])) := Same.trans s2 (same_upd nr)
    have hq3 : (upd (upd H1 q (.dK kvs)) r (.lst [])) q = some (.dK kvs) := same_upd nr _ _ hq2
    have nr1 : H1 r = none := s2.free nr
    revert hr3 s3 hq3
    generalize upd (upd H1 q (.dK kvs)) r (.lst []) = H3
    clear hq2 s2 nr
    intro hr3 s3 hq3
    refine gname (seq_st ?_)
    have hw3 := hw.same s3
    obtain ⟨f, hv, _⟩ := hw3
    have ha3 := s3 _ _ ha1
    have hb3 := s3 _ _ (s1 _ _ hb)
    have hAv := cnt_ne hv ha3 g.cb ok.evs.lo
    have hBv := cnt_ne hv hb3 hgB ok.evs.lo
    have hz8 : d.evs.length < sizeLine := Nat.lt_of_lt_of_le (by omega) (sz 100)
    have hgap : (d.evs.map fun e => cntOf gs e - cntOf kvs e).sum = gapS d.evs (cntOf kvs) (cntOf gs) := rfl
    have gp := gap_nn hle
    refine cb1 ?_
    refine ⟨v, _, hv, trivial, fun od => ?_⟩
    have hc2 : (upd H3 v (.frz od (.dK (mapF d.evs f)))) v = some (.frz od (.dK (mapF d.evs f))) := upd_same
    have hA2 : (upd H3 v (.frz od (.dK (mapF d.evs f)))) a = some (.dK kvs) := by rw [upd_ne hAv]; exact ha3
    have hB2 : (upd H3 v (.frz od (.dK (mapF d.evs f)))) b = some (.dK gs) := by rw [upd_ne hBv]; exact hb3
    refine ⟨_, rfl, v, od, rfl, .inl ⟨_, hc2, fun D hD => ?_⟩⟩
    refine lc_map (f := fun e => V.int (cntOf gs e - cntOf kvs e)) (v := V.str) (xs := d.evs) (walk_mapF (K := K)) hD (fun H' s => s _ _ hc2) hz8 (fun _ => rfl) (fun e he H' s N hN => ?_) fun H4 s4 hD4 => ?_
    · exact ⟨_, rfl, _, rfl, b, _, rfl, .inl ⟨gs, .inr e, .inl (s _ _ hB2), rfl, (cntOf_ok hgB he).1.symm⟩, _, rfl, _, rfl, a, _, rfl, .inl ⟨kvs, .inr e, .inl (s _ _ hA2), rfl, (cntOf_ok g.cb he).1.symm⟩, _, _, rfl, rfl, hN _ (Same.refl _)⟩
    have s5 := same_unlock hv s4
    have hDv : D ≠ v := fun z => by
      rw [z, upd_same] at hD
      cases hD
    have hD5 : (upd H4 v (.dK (mapF d.evs f))) D = some (.lst ((d.evs.map fun e => cntOf gs e - cntOf kvs e).map V.int)) := by
      rw [upd_ne hDv, hD4, List.map_map]
      rfl
    refine ⟨s4 _ _ hc2, ?_⟩
    have s15 := Same.trans s3 s5
    have hq5 := s5 _ _ hq3
    have hr5 := s5 _ _ hr3
    revert hD5 s15 hq5 hr5
    generalize upd H4 v (.dK (mapF d.evs f)) = H5
    intro hD5 s15 hq5 hr5
    clear hD hD4 s4 s5 hDv hc2 hA2 hB2 hv hAv hBv hq3 hr3 s3 ha3 hb3
    refine ⟨D, d.evs.map fun e => cntOf gs e - cntOf kvs e, rfl, .inl (.inl hD5), ?_⟩
    rw [hgap]
    refine ⟨_, rfl, by omega, by omega, ?_⟩
    refine for_it walk_range (fun i σ H' => WayInv d kvs gs p a b v q r H1 i σ H') ⟨s15, kvs, [], _, _, rfl, hq5, g, hm, hr5, fun _ he => absurd he List.not_mem_nil, rfl, rfl, by simp, hle⟩ (fun _ _ _ _ _ => trivial) (fun i x σ H6 H7 hi pv yv => ?_) (fun σ H6 pv => ?_)
    · obtain ⟨s6, ks, es, v6, v7, rfl, hq6, g6, m6, hr6, hin, hwk, hlen, hgp, hle6⟩ := pv
      obtain ⟨rfl, rfl⟩ := yv
      obtain ⟨e0, he0, hl0⟩ := gap_pos (es := d.evs) (c := cntOf ks) (g := cntOf gs) (by omega)
      obtain ⟨x, rr, hab, hx, hxl, hxm⟩ := able_some ok m6 mgs (fun e he => (cntOf_ok g6.cb he).2) he0 hl0
      obtain ⟨g7, c7, k7⟩ := going_step g6 hx
      rw [stepK_eq g6.nd] at g7 c7 k7
      have hlen7 : ks.length ≤ 1000 := by
        have h1 := g6.cb
        unfold countsB at h1
        have h2 := of_decide_eq_true (Bool.and_eq_true_iff.mp h1).1
        omega
      have hb6 := s6 _ _ (s1 _ _ hb)
      refine gname ?_
      refine ⟨_, rfl, _, rfl, _, rfl, v, q, b, d, ks, gs, x, rr, rfl, hw.same s6, ok, hq6, g6, hb6, hgB, m6, mgs, hab, fun H8 s8 => ?_⟩
      have hq8 := s8 _ _ hq6
      have hr8 := s8 _ _ hr6
      have hrq : r ≠ q := fun z => by
        rw [z, hq8] at hr8
        cases hr8
      have hr9 : (upd H8 q (.dK (putK ks (.inr x) (.int (cntOf ks x + 1))))) r = some (.lst (es.map V.str)) := by
        rw [upd_ne hrq]
        exact hr8
      refine ⟨_, rfl, _, rfl, q, _, rfl, .inl ⟨ks, .inr x, .inl hq8, rfl, (cntOf_ok g6.cb hx).1.symm⟩, _, _, rfl, rfl, _, .inl ⟨ks, .inr x, hq8, rfl, Nat.lt_of_lt_of_le (Nat.lt_succ_of_le hlen7) (sz 1001), rfl⟩, ?_⟩
      have hgu := gap_up (c := cntOf ks) (g := cntOf gs) ok.evs.nd hx
      refine ⟨_, rfl, .inl ⟨rfl, _, .inl (.inl hr9)⟩, _, rfl, r, _, _, rfl, rfl, hr9, by rw [List.length_map]; exact Nat.lt_of_lt_of_le (by omega : es.length < 1000) (sz 1000), ?_⟩
      refine ⟨same_put nr1 (same_put nq (Same.trans s6 s8)), _, es ++ [x], _, _, rfl, ?_, g7, by rw [c7]; exact hxm, ?_, ?_, by rw [c7]; exact walkC_snoc hwk hxm, ?_, ?_, ?_⟩
      · rw [upd_ne (Ne.symm hrq), upd_same]
      · rw [upd_same, List.map_append]
        rfl
      · intro e he
        rcases List.mem_append.mp he with h | h
        · exact hin e h
        · rw [List.mem_singleton.mp h]
          exact hx
      · rw [List.length_append, List.length_singleton, hlen]
      · rw [c7]
        omega
      · intro e he
        rw [c7]
        unfold upC
        by_cases h : e = x
        · rw [if_pos h, h]
          omega
        · rw [if_neg h]
          exact hle6 e he
    · obtain ⟨s6, ks, es, v6, v7, rfl, hq6, g6, m6, hr6, hin, hwk, hlen, hgp, hle6⟩ := pv
      have hz0 := gap_nn hle6
      have hz : gapS d.evs (cntOf ks) (cntOf gs) = 0 := by omega
      exact ⟨_, rfl, qo r es (cntOf ks) H6 (Same.trans s1 s6) (s1.free nr1) hr6 (by omega) hin hwk (gap_zero hle6 hz)⟩
/-- what is due at two moments, the second one told or not -/
def spRunTo (K : PySem.W.Frag) (C CE CF CN CB CT : Addr) : Sp := fun vs H Q E => ∃ v y b, vs = [v, y, b] ∧ Due K C CE CF v y H E fun p d gs => PlanOk d ∧ (momB d (cntOf gs) = false → ∀ H', Same H H' → Out CN "value" y E H') ∧ (momB d (cntOf gs) = true →
    ((b ≠ .non ∧ NoCounts K d H b ∧ ∀ H', Same H H' → Out CF "value" b E H') ∨ (∃ kvs, Counts d H b kvs ∧ momB d (cntOf kvs) = false ∧ ∀ H', Same H H' → Out CN "value" b E H') ∨
     ∃ kvs, ((b = .non ∧ kvs = mapC d.evs fun _ => 0) ∨ (Counts d H b kvs ∧ momB d (cntOf kvs) = true)) ∧ Going d kvs ∧ momB d (cntOf kvs) = true ∧
      ((∃ e ∈ d.evs, cntOf gs e < cntOf kvs e) → ∀ H', Same H H' → Out CB "value" b E H') ∧
      ((∀ e ∈ d.evs, cntOf kvs e ≤ cntOf gs e) → (200 < gapS d.evs (cntOf kvs) (cntOf gs) → ∀ H', Same H H' → Out CT "total" (.int (gapS d.evs (cntOf kvs) (cntOf gs))) E H') ∧
       (gapS d.evs (cntOf kvs) (cntOf gs) ≤ 200 → ∀ q es c H', Same H H' → H q = none → H' q = some (.lst (es.map V.str)) → (es.length : Int) = gapS d.evs (cntOf kvs) (cntOf gs) → (∀ e ∈ es, e ∈ d.evs) → walkC d (cntOf kvs) es 0 = .inl c → (∀ e ∈ d.evs, c e = cntOf gs e) → Q (.ref q) H'))))
theorem ok_run_to {C CE CF CN CB CT fB fT f : Addr} {fd : FuncData} (F : FunD K "run_to" "run_to" (defArgs s_run_to) (defBody s_run_to) (defScope s_run_to) [] [("begin", .non)] f fd) (T : Txt mg) (PI : PlanI K C)
    (cneed_moment : CalX P w K mg base 7 "need_moment" (spNeedMoment K C CE CF CN)) (cbeginning : CalX P w K mg base 8 "beginning" (spBegin K C CF CN)) 
    (cway_between : Cal P w K mg base 3 "way_between" (spWayTo K C) []) (cEvents : CalM P w K mg base 1 C "events" (spPEvents K C)) (e_NotBehind : ErrTxt K mg "NotBehind" "value" CB fB) (e_TooLong : ErrTxt K mg "TooLong" "total" CT fT) :
    FnOk P w K mg base (L2.CX P w) 9 f fd ["plan", "counts", "begin"] (spRunTo K C CE CF CN CB CT) := by
  have nd := sc_run_to.nd
  refine F.ok sc_run_to (fun vs H Q E h => ?_) (fun cdv A outer s H vs Q E hr h => ?_)
  · obtain ⟨_, _, _, rfl, _⟩ := h
    rfl
  · obtain ⟨v, y, b, rfl, h⟩ := h
    have hu : (A.deeper (envOfC "run_to" (defScope s_run_to) s.heap.objs.size f cdv)).units + 1 < cLine := by
      have := hr.units
      omega
    refine ⟨_, (pss_cons (ps_expr (pe_cX cneed_moment (takes_of rfl rfl rfl rfl) hr (by decide) rfl (pa_cons (pv 0) (pa_cons (pv 1) pa_nil))))
      (pss_cut (ps_set (i := 3) nd rfl (Or.inr rfl) (pe_cX cbeginning (takes_of rfl rfl rfl rfl) hr (by decide) rfl (pa_cons (pv 0) (pa_cons (pv 2) pa_nil))))
      (pss_cut (ps_if (pt_val (pe_callB (cr_any rfl) (by rfl) T.m_any PyProof.Rows.boot_any (pa_cons (pe_lc (own := [("event", 5)]) (g := gName 5) (tt := tYes) rfl nd (pi_list (pe_m0' (pv 0) PI.cls cEvents hr (by decide))) (blkOk_by (N := ["plan", "counts", "begin", "first", "total", "event"]) (sc := defScope s_run_to) (by decide +kernel)) (fun _ _ _ _ _ => pg_name (i := 5) nd rfl (Or.inl rfl)) (fun _ _ _ _ _ => pts_nil) (fun _ _ _ _ _ => (pe_cmpR op_gt (pe_dget hu (pv 3) (pv 5) (fun _ _ => rfl)) (pe_dget hu (pv 1) (pv 5) (fun _ _ => rfl)) (by rfl)))) pa_nil)))
      (pss_one (ps_raiseE rfl e_NotBehind hr (takes_of rfl rfl rfl rfl) (pa_cons (pv 2) pa_nil) rfl)) pss_nil)
      (pss_cons (ps_set (i := 4) nd rfl (Or.inl rfl) (pe_callB (cr_sum rfl) (by rfl) T.m_sum PyProof.Rows.boot_sum (pa_cons (pe_lc (own := [("event", 5)]) (g := gName 5) (tt := tYes) rfl nd (pi_list (pe_m0' (pv 0) PI.cls cEvents hr (by decide))) (blkOk_by (N := ["plan", "counts", "begin", "first", "total", "event"]) (sc := defScope s_run_to) (by decide +kernel)) (fun _ _ _ _ _ => pg_name (i := 5) nd rfl (Or.inl rfl)) (fun _ _ _ _ _ => pts_nil) (fun _ _ _ _ _ => (pe_op op_sub (pe_dget hu (pv 1) (pv 5) (fun _ _ => rfl)) (pe_dget hu (pv 3) (pv 5) (fun _ _ => rfl))))) pa_nil)))
      (pss_cons (ps_if (pt_cmpR op_gt (pv 4) (pe_gi rfl T.m_LONGEST_RUN) (by rfl))
      (pss_one (ps_raiseE rfl e_TooLong hr (takes_of rfl rfl rfl rfl) (pa_cons (pv 4) pa_nil) rfl)) pss_nil)
      (pss_one (ps_ret (pe_c cway_between hr (by decide) rfl (pa_cons (pv 0) (pa_cons (pv 3) (pa_cons (pv 1) pa_nil))))))))))), ?_⟩
    rcases h with ⟨hn, e⟩ | ⟨p, d, rfl, hp, hl, ⟨hn, e⟩ | ⟨gs, hg, ok, q0, q1⟩⟩
    · exact ⟨_, rfl, _, rfl, v, y, rfl, .inl ⟨hn, e⟩⟩
    · exact ⟨_, rfl, _, rfl, _, y, rfl, .inr ⟨p, d, rfl, hp, hl, .inl ⟨hn, e⟩⟩⟩
    refine ⟨_, rfl, _, rfl, _, y, rfl, .inr ⟨p, d, rfl, hp, hl, .inr ⟨gs, hg, ok, fun z H1 s1 => ?_, q0⟩⟩⟩
    have hp1 := hp.same s1
    obtain ⟨cG, rfl, hcG, _, hgB⟩ := hg
    have hl1 := ok.evs.hi
    rcases q1 z with ⟨hb, hn, e⟩ | ⟨kvs, hc, hm, e⟩ | ⟨kvs, h0, g, hm, qb, qo⟩
    · exact ⟨fun _ _ => False, ⟨_, rfl, _, rfl, p, b, d, rfl, hp1, ok, .inr (.inl ⟨hb, hn.same s1, fun H2 s2 => e _ (Same.trans s1 s2)⟩)⟩, fun _ _ z => z.elim⟩
    · exact ⟨fun _ _ => False, ⟨_, rfl, _, rfl, p, b, d, rfl, hp1, ok, .inr (.inr ⟨kvs, hc.same s1, fun _ H2 s2 => e _ (Same.trans s1 s2), fun z => absurd z (by rw [hm]; decide)⟩)⟩, fun _ _ z => z.elim⟩
    refine ⟨fun σ H' => Same H H' ∧ ∃ q, σ = [some (.ref p), some (.ref cG), some b, some (.ref q), none, none] ∧ H' q = some (.dK kvs), ?_, ?_⟩
    · rcases h0 with ⟨rfl, rfl⟩ | ⟨hc, hm⟩
      · exact ⟨_, rfl, _, rfl, p, _, d, rfl, hp1, ok, .inl ⟨rfl, fun q H2 s2 _ hq2 => ⟨Same.trans s1 s2, q, rfl, hq2⟩⟩⟩
      · exact ⟨_, rfl, _, rfl, p, b, d, rfl, hp1, ok, .inr (.inr ⟨kvs, hc.same s1, fun z => absurd z (by rw [hm]; decide), fun _ q H2 s2 _ hq2 => ⟨Same.trans s1 s2, q, rfl, hq2⟩⟩)⟩
    rintro σ H2 ⟨s2, q, rfl, hq2⟩
    have hz8 : d.evs.length < sizeLine := Nat.lt_of_lt_of_le (by omega) (sz 100)
    have evl : ∀ (H2 : Hp), Same H H2 → ∀ (f : Str → V) (te : TE) (σ : L2.St) (Q' : VK), σ[0]? = some (some (V.ref p)) →
        (∀ x, wipe ((wipe σ [5]).set 5 (some x)) [5] = wipe σ [5]) →
        (∀ e, e ∈ d.evs → ∀ H3, Same H2 H3 → ∀ N : VK, (∀ H4, Same H3 H4 → N (f e) H4) → te ((wipe σ [5]).set 5 (some (.str e))) H3 N) →
        (∀ D H3, Same H2 H3 → H3 D = some (.lst (d.evs.map f)) → Q' (.ref D) H3) →
        tLc (iList K (tMeth C "events" (spPEvents K C) [] E0 (tVar 0) tNil)) (gName 5) tYes te [5] σ H2 Q' := by
      intro H2 s2 f te σ Q' h0 hw step fin
      have hp2 := hp.same s2
      obtain ⟨dx, o, r, cc, ts0, g1, _⟩ := id hp2.ex
      refine ⟨_, h0, p, dx, _, rfl, g1, rfl, p, d, rfl, hp2, fun l nl => ⟨l, rfl, ⟨_, .inl (.inl upd_same)⟩, fun D hD => ?_⟩⟩
      have hl1 : (upd H2 l (.lst (d.evs.map V.str))) l = some (.lst (d.evs.map V.str)) := upd_same
      have sl : Same H2 (upd H2 l (.lst (d.evs.map V.str))) := same_upd nl
      have wl := walk_list (K := K) (a := l) (xs := d.evs.map V.str)
      rw [List.length_map] at wl
      exact lc_map (f := f) (v := V.str) (xs := d.evs) wl hD (fun H' s => .inl (.inl (s _ _ hl1))) hz8 hw (fun e he H' s N hN => step e he H' (Same.trans sl s) N hN) fun H' s hd => fin D H' (Same.trans sl s) hd
    refine ⟨fun σ H' => Same H H' ∧ σ = [some (.ref p), some (.ref cG), some b, some (.ref q), none, none] ∧ H' q = some (.dK kvs) ∧ ∀ e ∈ d.evs, cntOf kvs e ≤ cntOf gs e, ?_, ?_⟩
    · refine if_b (cb1 ?_)
      refine evl H2 s2 (fun e => .bl (decide (cntOf gs e < cntOf kvs e))) _ [some (.ref p), some (.ref cG), some b, some (.ref q), none, none] _ rfl (fun _ => rfl) (fun e he H3 s3 N hN => ?_) (fun D H3 s3 hD => ?_)
      · exact ⟨_, rfl, _, rfl, q, _, rfl, .inl ⟨kvs, .inr e, .inl (s3 _ _ hq2), rfl, (cntOf_ok g.cb he).1.symm⟩, _, rfl, _, rfl, cG, _, rfl, .inl ⟨gs, .inr e, .inl (s3 _ _ (s2 _ _ hcG)), rfl, (cntOf_ok hgB he).1.symm⟩, _, _, rfl, rfl, hN _ (Same.refl _)⟩
      · refine ⟨D, d.evs.map fun e => decide (cntOf gs e < cntOf kvs e), rfl, .inl (.inl (by rw [List.map_map]; exact hD)), _, rfl, ?_⟩
        cases hany : (d.evs.map fun e => decide (cntOf gs e < cntOf kvs e)).any id with
        | true =>
          rw [List.any_map, List.any_eq_true] at hany
          obtain ⟨e, he, h3⟩ := hany
          exact ⟨_, rfl, _, rfl, qb ⟨e, he, of_decide_eq_true h3⟩ _ (Same.trans s2 s3)⟩
        | false =>
          rw [List.any_map, List.any_eq_false] at hany
          refine ⟨Same.trans s2 s3, rfl, s3 _ _ hq2, fun e he => ?_⟩
          have h4 : ¬ decide (cntOf gs e < cntOf kvs e) = true := hany e he
          rw [decide_eq_true_iff] at h4
          omega
    rintro σ H3 ⟨s3, rfl, hq3, hle⟩
    obtain ⟨qT, qR⟩ := qo hle
    refine seq_asg (cb1 ?_)
    refine evl H3 s3 (fun e => .int (cntOf gs e - cntOf kvs e)) _ [some (.ref p), some (.ref cG), some b, some (.ref q), none, none] _ rfl (fun _ => rfl) (fun e he H4 s4 N hN => ?_) (fun D H4 s4 hD => ?_)
    · exact ⟨_, rfl, _, rfl, cG, _, rfl, .inl ⟨gs, .inr e, .inl (s4 _ _ (s3 _ _ hcG)), rfl, (cntOf_ok hgB he).1.symm⟩, _, rfl, _, rfl, q, _, rfl, .inl ⟨kvs, .inr e, .inl (s4 _ _ hq3), rfl, (cntOf_ok g.cb he).1.symm⟩, _, _, rfl, rfl, hN _ (Same.refl _)⟩
    refine ⟨D, d.evs.map fun e => cntOf gs e - cntOf kvs e, rfl, .inl (.inl (by rw [List.map_map]; exact hD)), ?_⟩
    have s04 := Same.trans s3 s4
    show tSeq _ _ _ _ _
    refine seq_st ⟨_, rfl, _, _, rfl, rfl, _, rfl, ite2 (fun e1 => ?_) (fun e1 => ?_)⟩
    · exact ⟨_, rfl, _, rfl, qT (of_decide_eq_true e1) _ s04⟩
    have hle2 : gapS d.evs (cntOf kvs) (cntOf gs) ≤ 200 := by
      have : ¬ (200 < gapS d.evs (cntOf kvs) (cntOf gs)) := fun z => e1 (decide_eq_true z)
      omega
    exact ⟨_, rfl, _, rfl, _, rfl, p, q, cG, d, kvs, gs, rfl, hp.same s04, ok, s4 _ _ hq3, g, hm, s04 _ _ hcG, hgB, z, hle, hle2, fun q2 es c H' s5 nq hr hlen hin hw hg => qR hle2 q2 es c H' (Same.trans s04 s5) (s04.free nq) hr hlen hin hw hg⟩

end
end Pk

set_option Elab.async false
set_option linter.all false
set_option maxRecDepth 100000
set_option maxHeartbeats 4000000
namespace Pk
open PySem PySem.Spec PyProof.Rows L2 Pu
abbrev s_law_names : Stmt := topS 65
theorem sc_law_names : FnScope ["_law_box_here", "_law_many", "_law_letters", "_law_shift", "_law_found", "_law_stem", "_law_at", "_law_k", "_law_word", "_law_turn"] ["_law_box_here", "_law_many"] (defScope s_law_names) := ⟨rfl, rfl, rfl, by decide +kernel, rfl, by decide +kernel, by decide +kernel⟩

section
variable {P : Program} {w : World} {K : PySem.W.Frag} {mg : Str → Option Value} {base : Heap}
/-! ### names that differ -/
theorem name_ok {z : Str} (h : Low z) (h1 : 1 ≤ z.length) (h2 : z.length ≤ 8) : nameOk z = true := by
  rw [nameOk_of h1 h2, List.all_eq_true]
  intro c hc
  exact decide_eq_true (h c hc)
def spNames : Sp := fun vs H Q _ => ∃ (b : Addr) (m : Nat) (n : Int), vs = [.ref b, .int m] ∧ 1 ≤ m ∧ m ≤ 8 ∧ n ≤ 900000 ∧ Box H b n ∧
  ∀ l es H', Box H' b (n + 200) → Ext b H H' → H l = none → H' l = some (.lst (es.map V.str)) → EvsOk es → es.length = m → Q (.ref l) H'
theorem ok_names {f : Addr} {fd : FuncData} (F : Fun K "_law_names" "_law_names" s_law_names f fd) (T : Txt mg) (claw_take : Cal P w K mg base 1 "_law_take" spTake []) : FnOk P w K mg base CX0 2 f fd ["_law_box_here", "_law_many"] spNames := by
  have nd := sc_law_names.nd
  refine F.ok sc_law_names (fun vs H Q E h => ?_) (fun cdv A outer s H vs Q E hr h => ?_)
  · obtain ⟨_, _, _, rfl, _⟩ := h
    rfl
  · obtain ⟨b, m, n, rfl, hm1, hm8, hn, hB, q⟩ := h
    refine ⟨_, (pss_cons (ps_asg (pe_tup (pa_cons pe_str (pa_cons (pe_c claw_take hr (by decide) rfl (pa_cons (pv 0) (pa_cons pe_int pa_nil))) (pa_cons (pe_lst pa_nil) pa_nil)))) (pg_tup rfl (pgs_cons (pg_name (i := 2) nd rfl (Or.inr rfl)) (pgs_cons (pg_name (i := 3) nd rfl (Or.inr rfl)) (pgs_cons (pg_name (i := 4) nd rfl (Or.inl rfl)) pgs_nil)))))
      (pss_cons (ps_set (i := 5) nd rfl (Or.inr rfl) (pe_join pe_str (pe_lc (own := [("_law_turn", 9)]) (g := gName 9) (tt := tYes) rfl nd (pi_range1 rfl T.m_range (pa_cons (pe_op oAdd pe_int (pe_c claw_take hr (by decide) rfl (pa_cons (pv 0) (pa_cons pe_int pa_nil)))) pa_nil)) (blkOk_by (N := ["_law_box_here", "_law_many", "_law_letters", "_law_shift", "_law_found", "_law_stem", "_law_at", "_law_k", "_law_word", "_law_turn"]) (sc := defScope s_law_names) (by decide +kernel)) (fun _ _ _ _ _ => pg_name (i := 9) nd rfl (Or.inl rfl)) (fun _ _ _ _ _ => pts_nil) (fun _ _ _ _ _ => (pe_ix ix_str (pv 2) (pe_c claw_take hr (by decide) rfl (pa_cons (pv 0) (pa_cons pe_int pa_nil))) (fun _ _ => rfl))))))
      (pss_cons (ps_if (pt_cmpR op_eq (pe_c claw_take hr (by decide) rfl (pa_cons (pv 0) (pa_cons pe_int pa_nil))) pe_int (by rfl))
      (pss_cons (ps_set (i := 6) nd rfl (Or.inr rfl) (pe_op oAdd pe_int (pe_c claw_take hr (by decide) rfl (pa_cons (pv 0) (pa_cons (pe_op op_sub (pe_callB (lenK K) (by rfl) T.m_len PySem.boot_len (pa_cons (pv 5) pa_nil)) pe_int) pa_nil)))))
      (pss_one (ps_ret (pe_lc (own := [("_law_k", 7)]) (g := gName 7) (tt := tYes) rfl nd (pi_range1 rfl T.m_range (pa_cons (pv 1) pa_nil)) (blkOk_by (N := ["_law_box_here", "_law_many", "_law_letters", "_law_shift", "_law_found", "_law_stem", "_law_at", "_law_k", "_law_word", "_law_turn"]) (sc := defScope s_law_names) (by decide +kernel)) (fun _ _ _ _ _ => pg_name (i := 7) nd rfl (Or.inl rfl)) (fun _ _ _ _ _ => pts_nil) (fun _ _ _ _ _ => (pe_op oAdd (pe_op oAdd (pe_slice sl_str (pv 5) po_none (po_some (pv 6))) (pe_ix ix_str (pv 2) (pe_op op_mod (pe_op oAdd (pv 3) (pe_op op_mul pe_int (pv 7))) pe_int) (fun _ _ => rfl))) (pe_slice sl_str (pv 5) (po_some (pv 6)) po_none))))))) pss_nil)
      (pss_cons (ps_for PassesOwn.never rfl (pi_range1 rfl T.m_range (pa_cons (pv 1) pa_nil)) (pg_name (i := 7) nd rfl (Or.inl rfl))
      (pss_cons (ps_set (i := 8) nd rfl (Or.inl rfl) (pe_join pe_str (pe_lc (own := [("_law_turn", 9)]) (g := gName 9) (tt := tYes) rfl nd (pi_range1 rfl T.m_range (pa_cons (pe_ix (ixL K) (pe_lst (pa_cons pe_int (pa_cons pe_int (pa_cons pe_int (pa_cons pe_int pa_nil))))) (pe_c claw_take hr (by decide) rfl (pa_cons (pv 0) (pa_cons pe_int pa_nil))) (fun _ _ => rfl)) pa_nil)) (blkOk_by (N := ["_law_box_here", "_law_many", "_law_letters", "_law_shift", "_law_found", "_law_stem", "_law_at", "_law_k", "_law_word", "_law_turn"]) (sc := defScope s_law_names) (by decide +kernel)) (fun _ _ _ _ _ => pg_name (i := 9) nd rfl (Or.inl rfl)) (fun _ _ _ _ _ => pts_nil) (fun _ _ _ _ _ => (pe_ix ix_str (pv 2) (pe_c claw_take hr (by decide) rfl (pa_cons (pv 0) (pa_cons pe_int pa_nil))) (fun _ _ => rfl))))))
      (pss_cut (ps_if (PW.pt (pw_and (pt_cmpR op_gt (pv 7) pe_int (by rfl)) (pw_and1 (pt_cmpR op_eq (pe_c claw_take hr (by decide) rfl (pa_cons (pv 0) (pa_cons pe_int pa_nil))) pe_int (by rfl)))))
      (pss_one (ps_set (i := 8) nd rfl (Or.inl rfl) (pe_slice sl_str (pe_ix (ixL K) (pv 4) pe_int (fun _ _ => rfl)) po_none (po_some pe_int)))) pss_nil)
      (pss_one (ps_expr (pe_bm PySem.F.plainAttrs_list PySem.F.slot_list_append PySem.F.type_list_append mt_append (pv 4) (pa_cons (pe_op oAdd (pv 8) (pe_ix ix_str (pv 2) (pe_op op_mod (pe_op oAdd (pv 3) (pe_op op_mul pe_int (pv 7))) pe_int) (fun _ _ => rfl))) pa_nil)))))))
      (pss_one (ps_ret (pv 4))))))), ?_⟩
    refine ⟨_, rfl, b, 26, n, rfl, by decide, by decide, by omega, hB, fun s0 H1 a1 a2 B1 e1 => ⟨sz 0, fun fl nfl => ?_⟩⟩
    refine ⟨sz 3, fun T0 nT0 => ⟨T0, _, rfl, .inl (.inl upd_same), rfl, ?_⟩⟩
    have e2 : Ext b H (upd (upd H1 fl (.lst [])) T0 (.tup [.str "abcdefghijklmnopqrstuvwxyz", .int s0, .ref fl])) := e1.trans ((Ext.new nfl).trans (Ext.new nT0))
    have B2 : Box (upd (upd H1 fl (.lst [])) T0 (.tup [.str "abcdefghijklmnopqrstuvwxyz", .int s0, .ref fl])) b (n + 1) := (B1.new nfl).new nT0
    have f2 : (upd (upd H1 fl (.lst [])) T0 (.tup [.str "abcdefghijklmnopqrstuvwxyz", .int s0, .ref fl])) fl = some (.lst []) := same_upd nT0 _ _ upd_same
    have fl0 : H fl = none := e1.fresh B1 nfl
    have hbf : b ≠ fl := B1.ne nfl
    revert e2 B2 f2
    generalize upd (upd H1 fl (.lst [])) T0 (.tup [.str "abcdefghijklmnopqrstuvwxyz", .int s0, .ref fl]) = H2
    intro e2 B2 f2
    refine ⟨_, _, rfl, _, _, rfl, _, _, rfl, rfl, ?_⟩
    refine ⟨⟨_, rfl⟩, _, rfl, b, 6, _, rfl, by decide, by decide, by omega, B2, fun d1 H3 c1 c2 B3 e3 => .inl ⟨_, _, rfl, rfl, ?_⟩⟩
    refine ⟨_, rfl, by omega, by omega, fun D hD => word_lc hD B3 (by omega) (fun i H' hi B4 N M hN => ?_) (fun ys H' B4 e4 hl hy hD4 => ?_)⟩
    · refine ⟨rfl, _, rfl, _, rfl, b, 26, _, rfl, by decide, by decide, by omega, B4, fun d H4 f1 f2 B5 e5 => ?_⟩
      obtain ⟨c, hc, hcm⟩ := pickN (xs := cs ("abcdefghijklmnopqrstuvwxyz" : Str)) f1 (by show d < 26; exact f2)
      exact ⟨_, _, c, rfl, rfl, by decide +kernel, hc, hN c H4 hcm B5 e5⟩
    have hln : (Txt.join ("" : Str) ys).length = ys.length := by rw [len_join0, sum_ones ys fun y hm => (hy y hm).1]
    refine ⟨_, D, ys, rfl, rfl, .inl (.inl (.inl hD4)), ?_, ?_⟩
    · rw [sum_ones ys fun y hm => (hy y hm).1]
      show ys.length + ys.length * 0 ≤ _
      omega
    have hlow := low_join (fun y hm => (hy y hm).2)
    have hx2 : (Txt.join ("" : Str) ys).length = (2 + d1).toNat := by rw [hln, hl]
    have f4 := e4 _ _ hbf.symm (e3 _ _ hbf.symm f2)
    have e04 := e2.trans (e3.trans e4)
    have B4' : Box H' b (n + 9) := B4.mono (by omega)
    clear e4 e3 e2 e1 hD4 B4 B3 B2 B1 hl hln hD nfl nT0
    revert hlow hx2
    generalize Txt.join ("" : Str) ys = x
    intro hlow hx2
    clear hy
    refine ⟨_, rfl, b, 6, _, rfl, by decide, by decide, by omega, B4', fun d2 H5 g1 g2 B5 e5 => ⟨rfl, _, rfl, ite2 (fun _ => ?_) (fun _ => ?_)⟩⟩
    · -- one sign within differs
      refine ⟨_, rfl, _, rfl, .inr ⟨x, rfl, sz _ (by omega), _, _, rfl, rfl, b, (x.length : Int) - 1, _, rfl, by omega, by omega, by omega, B5, fun d3 H6 g3 g4 B6 e6 => .inl ⟨_, _, rfl, rfl, ?_⟩⟩⟩
      obtain ⟨at', rfl⟩ := Int.eq_ofNat_of_zero_le g3
      have e06 := e04.trans (e5.trans e6)
      refine ⟨_, rfl, m, rfl, by omega, by omega, fun D hD => ?_⟩
      let nm : Nat → Str := fun k => cutS x none (some ((1 + at' : Nat) : Int)) ++ (⟨#[let3 s0 k]⟩ : Str) ++ cutS x (some ((1 + at' : Nat) : Int)) none
      have hcast : (1 : Int) + (at' : Int) = ((1 + at' : Nat) : Int) := by omega
      refine lc_rng hD (Nat.lt_of_lt_of_le (by omega) (sz 100)) (fun k => .str (nm k)) (fun _ => rfl) (fun k hk H7 s7 N hN => ?_) (fun H7 s7 hD7 => ?_)
      · obtain ⟨hat, hmem⟩ := let3_in (s := s0) (k := k)
        have l1 := len_cut x none (some ((1 + at' : Nat) : Int))
        have l2 := len_cut x (some ((1 + at' : Nat) : Int)) none
        refine ⟨_, rfl, _, rfl, _, rfl, x, rfl, sz _ (by omega), _, rfl, _, rfl, _, rfl, _, _, rfl, rfl, .inl ⟨by decide, by decide⟩, .inl ⟨_, _, rfl, rfl, _, _, rfl, rfl, (by show (0 : Int) < 26; decide), _, _, let3 s0 k, rfl, rfl, by decide +kernel, hat, .inr (.inl ⟨_, _, rfl, rfl, ?_, ?_⟩)⟩⟩
        · rw [hcast]
          show _ + 1 ≤ _
          exact sz _ (by omega)
        refine ⟨_, rfl, _, rfl, _, rfl, x, rfl, sz _ (by omega), .inr (.inl ⟨_, _, rfl, rfl, ?_, ?_⟩)⟩
        · rw [hcast, len_app]
          show _ + 1 + _ ≤ _
          exact sz _ (by omega)
        · rw [hcast]
          exact hN _ (Same.refl _)
      · have hs7 : Ext b H H7 := e06.trans fun a o _ ha => s7 a o ha
        have hB7 : Box H7 b (n + 200) := by
          obtain ⟨u, v, z, hb, r⟩ := B6.mono (show _ ≤ n + 200 by omega)
          exact ⟨u, v, z, s7 _ _ hb, r⟩
        have hnm : ∀ k, (nm k).length = x.length + 1 := by
          intro k
          have h1 := congrArg List.length (cs_to x (1 + at'))
          have h2 := congrArg List.length (cs_from x (1 + at'))
          rw [cs_len, List.length_take, cs_len] at h1
          rw [cs_len, List.length_drop, cs_len] at h2
          show (cutS x none (some ((1 + at' : Nat) : Int)) ++ (⟨#[let3 s0 k]⟩ : Str) ++ cutS x (some ((1 + at' : Nat) : Int)) none).length = _
          rw [len_app, len_app, h1, h2]
          show _ + 1 + _ = _
          omega
        refine q D ((List.range m).map nm) H7 hB7 hs7 (e06.fresh B6 hD) (by rw [hD7, List.map_map]; rfl) ⟨?_, ?_, ?_, ?_⟩ ?_
        · rw [List.length_map, List.length_range]
          exact hm1
        · rw [List.length_map, List.length_range]
          exact hm8
        · intro e he
          obtain ⟨k, _, rfl⟩ := List.mem_map.mp he
          refine name_ok ?_ (by rw [hnm]; omega) (by rw [hnm]; omega)
          exact low_app (low_app (low_cut hlow _ _) (low_one (let3_in (s := s0) (k := k)).2)) (low_cut hlow _ _)
        · rw [List.nodup_iff_pairwise_ne, List.pairwise_map]
          refine List.Pairwise.imp_of_mem (fun {j k} hj hk hjk => ?_) List.nodup_range
          exact mid_ne (let3_ne (by have := List.mem_range.mp hj; omega) (by have := List.mem_range.mp hk; omega) hjk)
        · rw [List.length_map, List.length_range]
    · -- the last signs differ
      have e05 := e04.trans e5
      have f5 := e5 _ _ hbf.symm f4
      clear e5 e04 f4 f2 B4'
      refine ⟨_, rfl, m, rfl, by omega, by omega, for_range (fun i σ H' => Box H' b (n + 10 + 12 * i) ∧ Pu.Ext b H H' ∧ ∃ es v7 v8, es.length = i ∧ (∀ e ∈ es, Low e ∧ 1 ≤ e.length ∧ e.length ≤ 8) ∧ (∀ j e, es[j]? = some e → ∃ w : Str, e = w ++ (⟨#[let3 s0 j]⟩ : Str)) ∧ H' fl = some (.lst (es.map V.str)) ∧
        σ = [some (.ref b), some (.int m), some (.str "abcdefghijklmnopqrstuvwxyz"), some (.int s0), some (.ref fl), some (.str x), none, v7, v8, none]) ⟨B5.mono (by omega), e05, [], none, none, rfl, fun _ h => absurd h List.not_mem_nil, fun j e h => (by simp at h), f5, rfl⟩ (fun i σ H6 hi pv => ?_) (fun σ H6 pv => ?_)⟩
      · obtain ⟨B6, e6, es, v7, v8, hl6, hes, hlast, hf6, rfl⟩ := pv
        rw [Int.zero_add]
        refine ⟨⟨_, rfl⟩, sz 4, fun L hL => ⟨_, rfl, b, 4, _, rfl, by decide, by decide, by omega, B6.new hL, fun d3 H7 g3 g4 B7 e7 => ?_⟩⟩
        have hbL : b ≠ L := B6.ne hL
        have hL7 := e7 _ _ hbL.symm upd_same
        have e07 := e6.trans ((Pu.Ext.new hL).trans e7)
        have f7 := e7 _ _ hbf.symm (same_upd hL _ _ hf6)
        obtain ⟨v, hv, hm⟩ := pickN (xs := [V.int 0, .int 1, .int 2, .int 7]) g3 (by show d3 < 4; exact g4)
        obtain ⟨mm, rfl, hm0, hm1⟩ : ∃ mm : Int, v = .int mm ∧ 0 ≤ mm ∧ mm ≤ 7 := by
          simp only [List.mem_cons, List.not_mem_nil, or_false] at hm
          rcases hm with rfl | rfl | rfl | rfl <;> exact ⟨_, rfl, by decide, by decide⟩
        refine ⟨L, _, _, _, rfl, rfl, .inl (.inl hL7), hv, mm, rfl, by omega, by omega, fun D hD => word_lc hD B7 (by omega) (fun i H' hi B4 N M hN => ?_) (fun ys H8 B8 e8 hl hy hD8 => ?_)⟩
        · refine ⟨rfl, _, rfl, _, rfl, b, 26, _, rfl, by decide, by decide, by omega, B4, fun d H4 f1 f2 B5 e5 => ?_⟩
          obtain ⟨c, hc, hcm⟩ := pickN (xs := cs ("abcdefghijklmnopqrstuvwxyz" : Str)) f1 (by show d < 26; exact f2)
          exact ⟨_, _, c, rfl, rfl, by decide +kernel, hc, hN c H4 hcm B5 e5⟩
        have hln : (Txt.join ("" : Str) ys).length = ys.length := by rw [len_join0, sum_ones ys fun y hm => (hy y hm).1]
        refine ⟨_, D, ys, rfl, rfl, .inl (.inl (.inl hD8)), ?_, ?_⟩
        · rw [sum_ones ys fun y hm => (hy y hm).1]
          show ys.length + ys.length * 0 ≤ _
          omega
        have hlow8 := low_join (fun y hm => (hy y hm).2)
        have hx8 : (Txt.join ("" : Str) ys).length ≤ 7 := by omega
        have f8 := e8 _ _ hbf.symm f7
        have e08 := e07.trans e8
        have B8' : Box H8 b (n + 10 + 12 * i + 8) := B8.mono (by omega)
        clear hy hl hln hD8 B8 hD e8 B7 e7 hL7 hv hL f7 e07 B6 hf6 e6
        revert hlow8 hx8
        generalize Txt.join ("" : Str) ys = ww
        intro hlow8 hx8
        refine ⟨fun σ' H' => Box H' b (n + 10 + 12 * i + 9) ∧ Pu.Ext b H H' ∧ H' fl = some (.lst (es.map V.str)) ∧ ∃ w', Low w' ∧ w'.length ≤ 7 ∧ σ' = [some (.ref b), some (.int m), some (.str "abcdefghijklmnopqrstuvwxyz"), some (.int s0), some (.ref fl), some (.str x), none, some (.int i), some (.str w'), none], ?_, ?_⟩
        · refine ⟨_, rfl, _, _, rfl, rfl, _, rfl, ite2 (fun ek => ?_) (fun ek => ?_)⟩
          · refine ⟨_, rfl, b, 3, _, rfl, by decide, by decide, by omega, B8', fun d9 H9 i1 i2 B9 e9 => ⟨rfl, _, rfl, ite2 (fun _ => ?_) (fun _ => ?_)⟩⟩
            · have hpos := of_decide_eq_true ek
              obtain ⟨e0, r0, rfl⟩ : ∃ e0 r0, es = e0 :: r0 := by
                cases es with
                | nil =>
                  rw [List.length_nil] at hl6
                  omega
                | cons e0 r0 => exact ⟨e0, r0, rfl⟩
              have h0 := hes e0 (List.mem_cons_self ..)
              have f9 := e9 _ _ hbf.symm f8
              refine ⟨_, rfl, fl, _, ((0 : Nat) : Int), .str e0, rfl, rfl, .inl (.inl f9), atI_nat rfl, 7, rfl, e0, rfl, sz _ (by omega), B9.mono (by omega), e08.trans e9, f9, _, low_cut h0.1 _ _, ?_, rfl⟩
              have h1 := congrArg List.length (cs_to e0 7)
              rw [cs_len, List.length_take, cs_len] at h1
              exact Nat.le_trans (Nat.le_of_eq h1) (Nat.min_le_left _ _)
            · exact ⟨B9.mono (by omega), e08.trans e9, e9 _ _ hbf.symm f8, ww, hlow8, hx8, rfl⟩
          · exact ⟨B8'.mono (by omega), e08, f8, ww, hlow8, hx8, rfl⟩
        · rintro σ' H9 ⟨B9, e9, f9, w', hlw, hxw, rfl⟩
          obtain ⟨hat, hmem⟩ := let3_in (s := s0) (k := i)
          refine ⟨_, rfl, .inl ⟨rfl, _, .inl (.inl f9)⟩, _, rfl, _, rfl, _, rfl, _, rfl, _, _, rfl, rfl, .inl ⟨by decide, by decide⟩, .inl ⟨_, _, rfl, rfl, _, _, rfl, rfl, (by show (0 : Int) < 26; decide), _, _, let3 s0 i, rfl, rfl, by decide +kernel, hat, .inr (.inl ⟨_, _, rfl, rfl, ?_, fl, _, _, rfl, rfl, f9, ?_, ?_⟩)⟩⟩
          · show _ + 1 ≤ _
            exact sz _ (by omega)
          · rw [List.length_map]
            exact Nat.lt_of_lt_of_le (by omega) (sz 100)
          · refine ⟨(B9.upd hbf).mono (by omega), e9.mut fl0, es ++ [w' ++ (⟨#[let3 s0 i]⟩ : Str)], _, _, by rw [List.length_append, hl6]; rfl, fun e he => ?_, fun j e hj => ?_, ?_, rfl⟩
            · rcases List.mem_append.mp he with h | h
              · exact hes e h
              · rw [List.mem_singleton.mp h, len_app]
                exact ⟨low_app hlw (low_one hmem), by show 1 ≤ _ + 1; omega, by show _ + 1 ≤ 8; omega⟩
            · rcases Nat.lt_or_ge j es.length with h | h
              · rw [List.getElem?_append_left h] at hj
                exact hlast j e hj
              · rw [List.getElem?_append_right h] at hj
                have hj2 : j - es.length = 0 := by
                  cases hjj : j - es.length with
                  | zero => rfl
                  | succ k => rw [hjj] at hj; simp at hj
                rw [hj2] at hj
                have hj3 : j = i := by omega
                subst hj3
                exact ⟨w', (Option.some.inj hj).symm⟩
            · rw [upd_same, List.map_append]
              rfl
      · obtain ⟨B6, e6, es, v7, v8, hl6, hes, hlast, hf6, rfl⟩ := pv
        refine ⟨_, rfl, q fl es H6 (B6.mono (by omega)) e6 fl0 hf6 ⟨by omega, by omega, fun e he => name_ok (hes e he).1 (hes e he).2.1 (hes e he).2.2, ?_⟩ hl6⟩
        rw [List.nodup_iff_pairwise_ne, List.pairwise_iff_getElem]
        intro j k hj hk hjk he
        obtain ⟨w1, h1⟩ := hlast j _ (List.getElem?_eq_getElem hj)
        obtain ⟨w2, h2⟩ := hlast k _ (List.getElem?_eq_getElem hk)
        rw [h1, h2] at he
        exact last_ne (let3_ne (by omega) (by omega) (by omega)) he

end
end Pk

set_option Elab.async false
set_option linter.all false
set_option maxRecDepth 100000
set_option maxHeartbeats 4000000
namespace Pk
open PySem PySem.Spec PyProof.Rows L2 Pu
abbrev s_law_shuffled : Stmt := topS 66
theorem sc_law_shuffled : FnScope ["_law_box_here", "_law_row", "_law_left", "_law_found", "_law_k"] ["_law_box_here", "_law_row"] (defScope s_law_shuffled) := ⟨rfl, rfl, rfl, by decide +kernel, rfl, by decide +kernel, by decide +kernel⟩

section
variable {P : Program} {w : World} {K : PySem.W.Frag} {mg : Str → Option Value} {base : Heap}
/-! ### in another order -/
theorem eraseIdx_perm {α : Type} : ∀ {l : List α} {k : Nat} {y : α}, l[k]? = some y → (y :: l.eraseIdx k).Perm l
  | x :: r, 0, y, h => by
    cases h
    exact List.Perm.refl _
  | x :: r, k + 1, y, h => by
    have ih := eraseIdx_perm (l := r) (k := k) (y := y) h
    show (y :: x :: r.eraseIdx k).Perm (x :: r)
    exact (List.Perm.swap x y _).trans (ih.cons x)
theorem seqIndex_nat {k n : Nat} (h : k < n) : seqIndex? (k : Int) n = some k := by
  unfold seqIndex?
  have h1 : ¬ ((k : Int) < 0) := by omega
  have h2 : ((k : Int) < (n : Int)) := by omega
  simp only [if_neg h1, Int.natCast_nonneg, decide_true, Bool.true_and, decide_eq_true h2, if_true, Int.toNat_natCast]
def spShuf (K : PySem.W.Frag) : Sp := fun vs H Q _ => ∃ (b a : Addr) (xs : List V) (n : Int), vs = [.ref b, .ref a] ∧ Sq K H a xs ∧ xs.length ≤ 100 ∧ n ≤ 900000 ∧ Box H b n ∧
  ∀ l ys H', Box H' b (n + xs.length) → Pu.Ext b H H' → H l = none → H' l = some (.lst ys) → ys.Perm xs → Q (.ref l) H'
theorem ok_shuffled {f : Addr} {fd : FuncData} (F : Fun K "_law_shuffled" "_law_shuffled" s_law_shuffled f fd) (T : Txt mg) (claw_take : Cal P w K mg base 1 "_law_take" spTake []) : FnOk P w K mg base CX0 2 f fd ["_law_box_here", "_law_row"] (spShuf K) := by
  have nd := sc_law_shuffled.nd
  refine F.ok sc_law_shuffled (fun vs H Q E h => ?_) (fun cdv A outer s H vs Q E hr h => ?_)
  · obtain ⟨_, _, _, _, rfl, _⟩ := h
    rfl
  · obtain ⟨b, a, xs, n, rfl, hq, hx, hn, hB, q⟩ := h
    refine ⟨_, (pss_cons (ps_par (i := 2) (j := 3) rfl nd rfl rfl (by decide) rfl rfl (pa_cons (pe_callTy (lstOf K) (by rfl) T.m_list PyProof.Rows.boot_list (pa_cons (pv 1) pa_nil)) (pa_cons (pe_lst pa_nil) pa_nil)) (by rfl))
      (pss_cons (ps_for PassesOwn.never rfl (pi_range1 rfl T.m_range (pa_cons (pe_callB (lenK K) (by rfl) T.m_len PySem.boot_len (pa_cons (pv 1) pa_nil)) pa_nil)) (pg_name (i := 4) nd rfl (Or.inl rfl))
      (pss_one (ps_expr (pe_bm PySem.F.plainAttrs_list PySem.F.slot_list_append PySem.F.type_list_append mt_append (pv 3) (pa_cons (pe_bm PySem.F.plainAttrs_list PySem.F.slot_list_pop PySem.F.type_list_pop mt_popAt (pv 2) (pa_cons (pe_c claw_take hr (by decide) rfl (pa_cons (pv 0) (pa_cons (pe_callB (lenK K) (by rfl) T.m_len PySem.boot_len (pa_cons (pv 2) pa_nil)) pa_nil))) pa_nil)) pa_nil)))))
      (pss_one (ps_ret (pv 3))))), ?_⟩
    refine ⟨_, rfl, a, xs, rfl, hq, fun l nl => ⟨sz 0, fun fl nfl => ⟨_, _, rfl, ?_⟩⟩⟩
    have hlf : l ≠ fl := fun e => by
      rw [← e, upd_same] at nfl
      cases nfl
    have nfl0 : H fl = none := by
      rw [upd_ne hlf.symm] at nfl
      exact nfl
    have s0 : Same H (upd (upd H l (.lst xs)) fl (.lst [])) := Same.trans (same_upd nl) (same_upd nfl)
    have hl0 : (upd (upd H l (.lst xs)) fl (.lst [])) l = some (.lst xs) := same_upd nfl _ _ upd_same
    have hf0 : (upd (upd H l (.lst xs)) fl (.lst [])) fl = some (.lst []) := upd_same
    have B0 : Box (upd (upd H l (.lst xs)) fl (.lst [])) b n := (hB.new nl).new nfl
    have hbl : b ≠ l := hB.ne nl
    have hbf : b ≠ fl := hB.ne nfl0
    revert s0 hl0 hf0 B0
    generalize upd (upd H l (.lst xs)) fl (.lst []) = H0
    intro s0 hl0 hf0 B0
    refine ⟨_, rfl, .inl ⟨a, xs, rfl, sq_same hq s0, _, rfl, by omega, by omega, for_range (n := xs.length) (fun i σ H' => Box H' b (n + i) ∧ Pu.Ext b H H' ∧ ∃ ls fs v4, (ls ++ fs).Perm xs ∧ ls.length + i = xs.length ∧ H' l = some (.lst ls) ∧ H' fl = some (.lst fs) ∧ σ = [some (.ref b), some (.ref a), some (.ref l), some (.ref fl), v4])
      ⟨B0.mono (by omega), fun x o _ h => s0 x o h, xs, [], none, by rw [List.append_nil], by omega, hl0, hf0, rfl⟩ (fun i σ H1 hi pv => ?_) (fun σ H1 pv => ?_)⟩⟩
    · obtain ⟨B1, e1, ls, fs, v4, hp, hln, hl1, hf1, rfl⟩ := pv
      refine ⟨_, rfl, .inl ⟨rfl, _, .inl (.inl hf1)⟩, _, rfl, .inl ⟨rfl, _, .inl (.inl hl1)⟩, _, rfl, _, rfl, .inl ⟨l, _, rfl, .inl (.inl (.inl hl1)), b, _, _, rfl, by omega, by omega, by omega, B1, fun d H2 g1 g2 B2 e2 => ?_⟩⟩
      obtain ⟨k, rfl⟩ := Int.eq_ofNat_of_zero_le g1
      have hk : k < ls.length := by omega
      have hl2 := e2 _ _ hbl.symm hl1
      have hf2 := e2 _ _ hbf.symm hf1
      refine ⟨l, ls, _, k, ls[k], rfl, rfl, hl2, by omega, by omega, seqIndex_nat hk, List.getElem?_eq_getElem hk, fl, fs, _, rfl, rfl, ?_, ?_, ?_⟩
      · rw [upd_ne hlf.symm]
        exact hf2
      · have := hp.length_eq
        rw [List.length_append] at this
        exact Nat.lt_of_lt_of_le (by omega) (sz 1000)
      · refine ⟨((B2.upd hbl).upd hbf).mono (by omega), ((e1.trans e2).mut nl).mut nfl0, ls.eraseIdx k, fs ++ [ls[k]], _, ?_, ?_, ?_, upd_same, rfl⟩
        · have h1 := eraseIdx_perm (List.getElem?_eq_getElem hk)
          have h2 : (ls.eraseIdx k ++ (fs ++ [ls[k]])).Perm (ls[k] :: ls.eraseIdx k ++ fs) := by
            rw [← List.append_assoc]
            exact List.perm_append_comm.trans (List.Perm.refl _)
          exact h2.trans ((h1.append_right fs).trans hp)
        · rw [List.length_eraseIdx, if_pos hk]
          omega
        · rw [upd_ne hlf, upd_same]
    · obtain ⟨B1, e1, ls, fs, v4, hp, hln, hl1, hf1, rfl⟩ := pv
      have h0 : ls = [] := List.eq_nil_of_length_eq_zero (by omega)
      subst h0
      exact ⟨_, rfl, q fl fs H1 B1 e1 nfl0 hf1 hp⟩

end
end Pk

set_option Elab.async false
set_option linter.all false
set_option maxRecDepth 100000
set_option maxHeartbeats 4000000
namespace Pk
open PySem PySem.Spec PyProof.Rows L2 Pu
abbrev s_law_plan : Stmt := topS 67
theorem sc_law_plan : FnScope ["_law_box_here", "_law_most", "_law_great", "_law_limited", "_law_events", "_law_order", "_law_ties", "_law_caps", "_law_k", "_law_earlier", "_law_later", "_law_lag", "_law_event"] ["_law_box_here", "_law_most", "_law_great", "_law_limited"] (defScope s_law_plan) := ⟨rfl, rfl, rfl, by decide +kernel, rfl, by decide +kernel, by decide +kernel⟩

section
variable {P : Program} {w : World} {K : PySem.W.Frag} {mg : Str → Option Value} {base : Heap}
/-! ### the law's own plan -/
theorem TiesAt.keep {H H' : Hp} {ts : List Addr} {ties : List (Str × Str × Int)} (h : TiesAt H ts ties) (k : ∀ x ∈ ts, ∀ r, H x = some (.tup r) → H' x = some (.tup r)) : TiesAt H' ts ties := by
  unfold TiesAt at *
  induction h with
  | nil => exact .nil
  | @cons a t as bs r _ ih => exact .cons (k _ (List.mem_cons_self ..) _ r) (ih fun x hx => k x (List.mem_cons_of_mem _ hx))
theorem TiesAt.snoc {H : Hp} {ts : List Addr} {ties : List (Str × Str × Int)} {a : Addr} {t : Str × Str × Int} (h : TiesAt H ts ties) (ha : H a = some (.tup (rowV t))) : TiesAt H (ts ++ [a]) (ties ++ [t]) := by
  unfold TiesAt at *
  induction h with
  | nil => exact .cons ha .nil
  | cons r _ ih => exact .cons r ih
/-- a plan as the law holds it, apart from the box at b -/
def ModAt (b : Addr) (H : Hp) (m : Addr) (d : PlanD) : Prop := ∃ (e t c : Addr) (ts : List Addr), H m = some (.lst [.ref e, .ref t, .ref c]) ∧ H e = some (.lst (d.evs.map V.str)) ∧ H t = some (.lst (ts.map V.ref)) ∧ TiesAt H ts d.ties ∧ H c = some (.dK (capsV d.caps)) ∧ m ≠ b ∧ e ≠ b ∧ t ≠ b ∧ c ≠ b ∧ ∀ x ∈ ts, x ≠ b
theorem ModAt.ext {b m : Addr} {H H' : Hp} {d : PlanD} (h : ModAt b H m d) (e : Pu.Ext b H H') : ModAt b H' m d := by
  obtain ⟨e1, t, c, ts, h1, h2, h3, h4, h5, n1, n2, n3, n4, n5⟩ := h
  exact ⟨e1, t, c, ts, e _ _ n1 h1, e _ _ n2 h2, e _ _ n3 h3, h4.keep fun x hx r hr => e _ _ (n5 x hx) hr, e _ _ n4 h5, n1, n2, n3, n4, n5⟩
theorem same_ext {b : Addr} {H H' : Hp} (s : Same H H') : Pu.Ext b H H' := fun a o _ h => s a o h
theorem ModAt.same {b m : Addr} {H H' : Hp} {d : PlanD} (h : ModAt b H m d) (s : Same H H') : ModAt b H' m d := h.ext (same_ext s)
def idxS : List Str → Str → Nat
  | [], _ => 0
  | y :: r, x => if y = x then 0 else idxS r x + 1
theorem idxS_get : ∀ {os : List Str} {x : Str}, x ∈ os → os[idxS os x]? = some x ∧ ∀ m, m < idxS os x → ∀ z, os[m]? = some z → z ≠ x
  | y :: r, x, h => by
    unfold idxS
    by_cases e : y = x
    · rw [if_pos e]
      exact ⟨by rw [e]; rfl, fun m hm => absurd hm (Nat.not_lt_zero _)⟩
    · rw [if_neg e]
      have hx : x ∈ r := by
        rcases List.mem_cons.mp h with h | h
        · exact absurd h.symm e
        · exact h
      obtain ⟨h1, h2⟩ := idxS_get hx
      refine ⟨h1, fun m hm z hz => ?_⟩
      cases m with
      | zero => cases hz; exact e
      | succ m => exact h2 m (by omega) z hz
theorem eqV_str (a b : Str) : eqV (.str a) (.str b) = decide (a = b) := by
  show (a == b) = _
  rw [Bool.eq_iff_iff, beq_iff_eq, decide_eq_true_iff]
theorem strs_get {os : List Str} {i : Nat} {z : V} (h : (os.map V.str)[i]? = some z) : ∃ s, os[i]? = some s ∧ z = .str s := by
  rw [List.getElem?_map] at h
  cases e : os[i]? with
  | none => rw [e] at h; cases h
  | some s =>
    rw [e] at h
    cases h
    exact ⟨s, rfl, rfl⟩
/-- what list.index of a text in a list of texts asks -/
theorem idx_at {os : List Str} {x : Str} (hx : x ∈ os) : (os.map V.str)[idxS os x]? = some (.str x) ∧ eqV (.str x) (.str x) = true ∧ ∀ (m : Nat) (z' : V), m < idxS os x → (os.map V.str)[m]? = some z' → eqV z' (.str x) = false := by
  obtain ⟨h1, h2⟩ := idxS_get hx
  refine ⟨by rw [List.getElem?_map, h1]; rfl, by rw [eqV_str]; exact decide_eq_true rfl, fun m z' hm hz => ?_⟩
  obtain ⟨s, hs, rfl⟩ := strs_get hz
  rw [eqV_str]
  exact decide_eq_false (h2 m hm s hs)
def unS : V → Str
  | .str s => s
  | _ => ""
theorem perm_strs {ys : List V} {es : List Str} (h : ys.Perm (es.map V.str)) : ∃ sh : List Str, ys = sh.map V.str ∧ sh.Perm es := by
  refine ⟨ys.map unS, ?_, ?_⟩
  · rw [List.map_map]
    have : ∀ y ∈ ys, (V.str ∘ unS) y = y := by
      intro y hy
      obtain ⟨s, _, rfl⟩ := List.mem_map.mp (h.mem_iff.mp hy)
      rfl
    rw [List.map_congr_left this, List.map_id']
  · have := h.map unS
    rw [List.map_map] at this
    have e : es.map (unS ∘ V.str) = es := by
      rw [show (unS ∘ V.str) = id from rfl, List.map_id]
    rw [e] at this
    exact this
/-- what a drawn plan keeps -/
structure LPlan (d : PlanD) (mo : Nat) (great : Int) (lim : Bool) : Prop where
  ok : PlanOk d
  most : d.evs.length ≤ mo
  tl : d.ties.length ≤ 2 * d.evs.length + 2
  lag : ∀ t ∈ d.ties, t.2.2 ≤ great + 3
  cap : ∀ c ∈ d.caps, c.2 ≤ great + 3
  lims : lim = true → (∀ e ∈ d.evs, ∃ c ∈ d.caps, c.1 = e) ∧ ∀ c ∈ d.caps, c.2 ≤ 3
def spLPlan : Sp := fun vs H Q _ => ∃ (b : Addr) (mo : Nat) (great n : Int) (lim : Bool), vs = [.ref b, .int mo, .int great, .bl lim] ∧ 1 ≤ mo ∧ mo ≤ 8 ∧ 0 < great ∧ great < 2 ^ 140 ∧ n ≤ 800000 ∧ Box H b n ∧
  ∀ m d H', Box H' b (n + 600) → Pu.Ext b H H' → H m = none → ModAt b H' m d → LPlan d mo great lim → Q (.ref m) H'
theorem pick_str {es : List Str} {i : Int} (h0 : 0 ≤ i) (h1 : i < es.length) : ∃ x, atI (es.map V.str) i = some (.str x) ∧ x ∈ es := by
  obtain ⟨v, hv, hm⟩ := pickN (xs := es.map V.str) h0 (by rw [List.length_map]; exact h1)
  obtain ⟨x, hx, rfl⟩ := List.mem_map.mp hm
  exact ⟨x, hv, hx⟩
def TieOk (es os : List Str) (great : Int) (t : Str × Str × Int) : Prop := t.1 ∈ es ∧ t.2.1 ∈ es ∧ 0 ≤ t.2.2 ∧ t.2.2 ≤ great + 3 ∧ (t.2.2 = 0 → idxS os t.1 < idxS os t.2.1)
def PInv1 (b l o tl cp : Addr) (mo : Nat) (great : Int) (lim : Bool) (es os : List Str) (H : Hp) (n : Int) (i : Nat) (σ : L2.St) (H' : Hp) : Prop := Box H' b (n + 300 + 8 * i) ∧ Pu.Ext b H H' ∧ H' l = some (.lst (es.map V.str)) ∧ H' o = some (.lst (os.map V.str)) ∧ H' cp = some (.dK []) ∧
  ∃ (ts : List Addr) (ties : List (Str × Str × Int)) (v8 v9 v10 v11 : Option V), ties.length = i ∧ H' tl = some (.lst (ts.map V.ref)) ∧ TiesAt H' ts ties ∧ (∀ x ∈ ts, x ≠ b) ∧ (∀ t ∈ ties, TieOk es os great t) ∧
    σ = [some (.ref b), some (.int mo), some (.int great), some (.bl lim), some (.ref l), some (.ref o), some (.ref tl), some (.ref cp), v8, v9, v10, v11, none]
def PInv2 (b l o tl cp : Addr) (mo : Nat) (great : Int) (lim : Bool) (es sh : List Str) (ts : List Addr) (ties : List (Str × Str × Int)) (H : Hp) (n : Int) (l2 : Addr) (i : Nat) (σ : L2.St) (H' : Hp) : Prop := Box H' b (n + 300 + 8 * i) ∧ Pu.Ext b H H' ∧ H' l = some (.lst (es.map V.str)) ∧ H' tl = some (.lst (ts.map V.ref)) ∧ TiesAt H' ts ties ∧ H' l2 = some (.lst (sh.map V.str)) ∧
  ∃ (cs : List (Str × Int)) (v8 v9 v10 v11 v12 : Option V), H' cp = some (.dK (capsV cs)) ∧ cs.length ≤ i ∧ (∀ c ∈ cs, c.1 ∈ sh.take i ∧ 0 ≤ c.2 ∧ c.2 ≤ great + 3) ∧ (cs.map (·.1)).Nodup ∧ (lim = true → (∀ e ∈ sh.take i, ∃ c ∈ cs, c.1 = e) ∧ ∀ c ∈ cs, c.2 ≤ 3) ∧
    σ = [some (.ref b), some (.int mo), some (.int great), some (.bl lim), some (.ref l), some (.ref o), some (.ref tl), some (.ref cp), v8, v9, v10, v11, v12]
theorem ok_plan {f : Addr} {fd : FuncData} (F : Fun K "_law_plan" "_law_plan" s_law_plan f fd) (T : Txt mg) (claw_take : Cal P w K mg base 1 "_law_take" spTake []) (claw_names : Cal P w K mg base 2 "_law_names" spNames []) (claw_shuffled : Cal P w K mg base 2 "_law_shuffled" (spShuf K) []) :
    FnOk P w K mg base CX0 3 f fd ["_law_box_here", "_law_most", "_law_great", "_law_limited"] spLPlan := by
  have nd := sc_law_plan.nd
  refine F.ok sc_law_plan (fun vs H Q E h => ?_) (fun cdv A outer s H vs Q E hr h => ?_)
  · obtain ⟨_, _, _, _, _, rfl, _⟩ := h
    rfl
  · obtain ⟨b, mo, great, n, lim, rfl, hmo1, hmo8, hg0, hg1, hn, hB, q⟩ := h
    have hu : (A.deeper (envOfC "_law_plan" (defScope s_law_plan) s.heap.objs.size f cdv)).units + 1 < cLine := by
      have := hr.units
      omega
    refine ⟨_, (pss_cons (ps_set (i := 4) nd rfl (Or.inl rfl) (pe_c claw_names hr (by decide) rfl (pa_cons (pv 0) (pa_cons (pe_op oAdd pe_int (pe_c claw_take hr (by decide) rfl (pa_cons (pv 0) (pa_cons (pv 1) pa_nil)))) pa_nil))))
      (pss_cons (ps_par3 (i := 5) (j := 6) (l := 7) rfl nd rfl rfl rfl (by decide) (by decide) (by decide) rfl rfl rfl (pa_cons (pe_c claw_shuffled hr (by decide) rfl (pa_cons (pv 0) (pa_cons (pv 4) pa_nil))) (pa_cons (pe_lst pa_nil) (pa_cons pe_dnewK pa_nil))) (by rfl))
      (pss_cons (ps_for PassesOwn.never rfl (pi_range1 rfl T.m_range (pa_cons (pe_c claw_take hr (by decide) rfl (pa_cons (pv 0) (pa_cons (pe_op oAdd (pe_op op_mul pe_int (pe_callB (lenK K) (by rfl) T.m_len PySem.boot_len (pa_cons (pv 4) pa_nil))) pe_int) pa_nil))) pa_nil)) (pg_name (i := 8) nd rfl (Or.inl rfl))
      (pss_cons (ps_par (i := 9) (j := 10) rfl nd rfl rfl (by decide) rfl rfl (pa_cons (pe_ix (ixL K) (pv 4) (pe_c claw_take hr (by decide) rfl (pa_cons (pv 0) (pa_cons (pe_callB (lenK K) (by rfl) T.m_len PySem.boot_len (pa_cons (pv 4) pa_nil)) pa_nil))) (fun _ _ => rfl)) (pa_cons (pe_ix (ixL K) (pv 4) (pe_c claw_take hr (by decide) rfl (pa_cons (pv 0) (pa_cons (pe_callB (lenK K) (by rfl) T.m_len PySem.boot_len (pa_cons (pv 4) pa_nil)) pa_nil))) (fun _ _ => rfl)) pa_nil)) (by rfl))
      (pss_cons (ps_set (i := 11) nd rfl (Or.inl rfl) (pe_ix (ixL K) (pe_lst (pa_cons pe_int (pa_cons pe_int (pa_cons pe_int (pa_cons pe_int (pa_cons (pe_c claw_take hr (by decide) rfl (pa_cons (pv 0) (pa_cons (pv 2) pa_nil))) pa_nil)))))) (pe_c claw_take hr (by decide) rfl (pa_cons (pv 0) (pa_cons pe_int pa_nil))) (fun _ _ => rfl)))
      (pss_cut (ps_if (PW.pt (pw_and (pt_cmpR op_eq (pv 11) pe_int (by rfl)) (pw_and1 (pt_cmpR op_ge (pe_bm PySem.F.plainAttrs_list PySem.F.slot_list_index PySem.F.type_list_index mt_index (pv 5) (pa_cons (pv 9) pa_nil)) (pe_bm PySem.F.plainAttrs_list PySem.F.slot_list_index PySem.F.type_list_index mt_index (pv 5) (pa_cons (pv 10) pa_nil)) (by rfl)))))
      (pss_one (ps_set (i := 11) nd rfl (Or.inl rfl) (pe_op oAdd pe_int (pe_c claw_take hr (by decide) rfl (pa_cons (pv 0) (pa_cons pe_int pa_nil)))))) pss_nil)
      (pss_one (ps_expr (pe_bm PySem.F.plainAttrs_list PySem.F.slot_list_append PySem.F.type_list_append mt_append (pv 6) (pa_cons (pe_tup (pa_cons (pv 9) (pa_cons (pv 10) (pa_cons (pv 11) pa_nil)))) pa_nil))))))))
      (pss_cons (ps_for PassesOwn.never rfl (pi_list (pe_c claw_shuffled hr (by decide) rfl (pa_cons (pv 0) (pa_cons (pv 4) pa_nil)))) (pg_name (i := 12) nd rfl (Or.inl rfl))
      (pss_one (ps_if (PW.pt (pw_or (pt_val (pv 3)) (pw_or1 (pt_cmpR op_eq (pe_c claw_take hr (by decide) rfl (pa_cons (pv 0) (pa_cons pe_int pa_nil))) pe_int (by rfl)))))
      (pss_one (ps_dput hu (pv 7) (pv 12) (pe_ix (ixL K) (pe_lst (pa_cons (pe_c claw_take hr (by decide) rfl (pa_cons (pv 0) (pa_cons pe_int pa_nil))) (pa_cons (pe_c claw_take hr (by decide) rfl (pa_cons (pv 0) (pa_cons (pv 2) pa_nil))) pa_nil))) (pe_callTy call_int1 (by rfl) T.m_int PyProof.Rows.boot_int (pa_cons (pe_and (pe_not (pv 3)) (pe_one (pe_cmpR op_eq (pe_c claw_take hr (by decide) rfl (pa_cons (pv 0) (pa_cons pe_int pa_nil))) pe_int (by rfl)))) pa_nil)) (fun _ _ => rfl)) rfl)) pss_nil)))
      (pss_one (ps_ret (pe_lst (pa_cons (pv 4) (pa_cons (pv 6) (pa_cons (pv 7) pa_nil)))))))))), ?_⟩
    refine ⟨_, rfl, _, rfl, _, rfl, b, mo, n, rfl, by omega, by omega, by omega, hB, fun d0 H1 a1 a2 B1 e1 => .inl ⟨_, _, rfl, rfl, ?_⟩⟩
    obtain ⟨k0, rfl⟩ := Int.eq_ofNat_of_zero_le a1
    refine ⟨b, 1 + k0, _, congrArg (fun z => [V.ref b, V.int z]) (show (1 : Int) + (k0 : Int) = ((1 + k0 : Nat) : Int) by omega), by omega, by omega, by omega, B1, fun l es H2 B2 e2 nl hl ho hln => ?_⟩
    have e02 := e1.trans e2
    have l0 : H l = none := e1.fresh B1 nl
    have hbl : b ≠ l := B1.ne nl
    have hlo := ho.lo
    have hhi := ho.hi
    refine ⟨_, rfl, _, rfl, b, l, es.map V.str, _, rfl, .inl (.inl (.inl hl)), by rw [List.length_map]; omega, by omega, B2, fun o ys H3 B3 e3 no ho3 hperm => ⟨sz 0, fun tl ntl => fun cp ncp => ⟨_, _, _, rfl, ?_⟩⟩⟩
    obtain ⟨os, rfl, hos⟩ := perm_strs hperm
    rw [List.length_map] at B3
    have hbo : b ≠ o := B2.ne no
    have o0 : H o = none := e02.fresh B2 no
    have hbt : b ≠ tl := B3.ne ntl
    have t0 : H tl = none := (e02.trans e3).fresh B3 ntl
    have B4 := B3.new (o := .lst []) ntl
    have e04 := (e02.trans e3).trans (Pu.Ext.new (o := .lst []) ntl)
    have hbc : b ≠ cp := B4.ne ncp
    have c0 : H cp = none := e04.fresh B4 ncp
    have B5 := B4.new (o := .dK []) ncp
    have e05 := e04.trans (Pu.Ext.new (o := .dK []) ncp)
    have s35 : Same H3 (upd (upd H3 tl (.lst [])) cp (.dK [])) := Same.trans (same_upd ntl) (same_upd ncp)
    have hl5 := s35 _ _ (e3 _ _ hbl.symm hl)
    have ho5 := s35 _ _ ho3
    have ht5 : (upd (upd H3 tl (.lst [])) cp (.dK [])) tl = some (.lst []) := same_upd ncp _ _ upd_same
    have hc5 : (upd (upd H3 tl (.lst [])) cp (.dK [])) cp = some (.dK []) := upd_same
    have hlt : l ≠ tl := fun e => by
      rw [← e, e3 _ _ hbl.symm hl] at ntl
      cases ntl
    have hot : o ≠ tl := fun e => by
      rw [← e, ho3] at ntl
      cases ntl
    revert B5 e05 hl5 ho5 ht5 hc5
    clear s35 e04 B4 ho3 ncp ntl
    generalize upd (upd H3 tl (.lst [])) cp (.dK []) = H5
    intro B5 e05 hl5 ho5 ht5 hc5
    clear e3 no e2 nl hl B3 B2 B1 e1 hperm H3 H2 e02
    have hz : (es.map V.str).length = es.length := List.length_map ..
    refine ⟨_, rfl, _, rfl, .inl ⟨l, _, rfl, .inl (.inl (.inl hl5)), _, _, rfl, rfl, .inl ⟨by decide, by decide⟩, .inl ⟨_, _, rfl, rfl, b, _, _, rfl, by omega, by omega, by omega, B5, fun d1 H6 g1 g2 B6 e6 => ?_⟩⟩⟩
    obtain ⟨k1, rfl⟩ := Int.eq_ofNat_of_zero_le g1
    have hk1 : k1 ≤ 2 * es.length + 2 := by omega
    refine ⟨k1, rfl, by omega, by omega, for_range (n := k1) (PInv1 b l o tl cp mo great lim es os H n) ⟨B6.mono (by omega), e05.trans e6, e6 _ _ hbl.symm hl5, e6 _ _ hbo.symm ho5, e6 _ _ hbc.symm hc5, [], [], none, none, none, none, rfl, e6 _ _ hbt.symm ht5, .nil, fun _ h => absurd h List.not_mem_nil, fun _ h => absurd h List.not_mem_nil, rfl⟩ (fun i σ H7 hi pv => ?_) (fun σ H7 pv => ?_)⟩
    · obtain ⟨B7, e7, hl7, ho7, hc7, ts, ties, v8, v9, v10, v11, hti, ht7, hT7, hTb, hTk, rfl⟩ := pv
      rw [Int.zero_add]
      refine ⟨_, rfl, _, rfl, _, rfl, .inl ⟨l, _, rfl, .inl (.inl (.inl hl7)), b, _, _, rfl, by omega, by omega, by omega, B7, fun p1 H8 i1 i2 B8 e8 => ?_⟩⟩
      rw [hz] at i2
      obtain ⟨x, hx, hxm⟩ := pick_str (es := es) i1 i2
      have hl8 := e8 _ _ hbl.symm hl7
      refine ⟨l, _, _, .str x, rfl, rfl, .inl (.inl hl8), hx, _, rfl, _, rfl, _, rfl, .inl ⟨l, _, rfl, .inl (.inl (.inl hl8)), b, _, _, rfl, by omega, by omega, by omega, B8, fun p2 H9 j1 j2 B9 e9 => ?_⟩⟩
      rw [hz] at j2
      obtain ⟨y, hy, hym⟩ := pick_str (es := es) j1 j2
      have hl9 := e9 _ _ hbl.symm hl8
      refine ⟨l, _, _, .str y, rfl, rfl, .inl (.inl hl9), hy, _, _, rfl, ?_⟩
      refine ⟨_, rfl, _, rfl, b, great, _, rfl, hg0, hg1, by omega, B9, fun dg H10 m1 m2 B10 e10 => ⟨sz 5, fun L hL => ⟨_, rfl, b, 5, _, rfl, by decide, by decide, by omega, B10.new hL, fun d5 H11 n1 n2 B11 e11 => ?_⟩⟩⟩
      have hbL : b ≠ L := B10.ne hL
      have hL11 := e11 _ _ hbL.symm upd_same
      have e711 : Pu.Ext b H7 H11 := e8.trans (e9.trans (e10.trans ((Pu.Ext.new hL).trans e11)))
      obtain ⟨v, hv, hm⟩ := pickN (xs := [V.int 0, .int 0, .int 1, .int 2, .int dg]) n1 (by show d5 < 5; exact n2)
      obtain ⟨lg, rfl, hlg0, hlg1⟩ : ∃ lg : Int, v = .int lg ∧ 0 ≤ lg ∧ lg ≤ great + 3 := by
        simp only [List.mem_cons, List.not_mem_nil, or_false] at hm
        rcases hm with rfl | rfl | rfl | rfl | rfl
        · exact ⟨_, rfl, by omega, by omega⟩
        · exact ⟨_, rfl, by omega, by omega⟩
        · exact ⟨_, rfl, by omega, by omega⟩
        · exact ⟨_, rfl, by omega, by omega⟩
        · exact ⟨_, rfl, by omega, by omega⟩
      refine ⟨L, _, _, _, rfl, rfl, .inl (.inl hL11), hv, ?_⟩
      have hx2 : x ∈ os := hos.mem_iff.mpr hxm
      have hy2 : y ∈ os := hos.mem_iff.mpr hym
      have ho11 := e711 _ _ hbo.symm ho7
      refine ⟨fun σ' H' => Box H' b (n + 300 + 8 * i + 5) ∧ Pu.Ext b H7 H' ∧ ∃ lg' : Int, 0 ≤ lg' ∧ lg' ≤ great + 3 ∧ (lg' = 0 → idxS os x < idxS os y) ∧ σ' = [some (.ref b), some (.int mo), some (.int great), some (.bl lim), some (.ref l), some (.ref o), some (.ref tl), some (.ref cp), some (.int i), some (.str x), some (.str y), some (.int lg'), none], ?_, ?_⟩
      · refine ⟨_, rfl, rfl, _, rfl, ite2 (fun e0 => ?_) (fun e0 => ?_)⟩
        · refine ⟨_, rfl, .inl ⟨rfl, _, .inl (.inl ho11)⟩, _, rfl, o, _, _, idxS os x, .str x, rfl, rfl, .inl (.inl ho11), rfl, flat_strs _, (idx_at hx2).1, (idx_at hx2).2.1, (idx_at hx2).2.2, ?_⟩
          refine ⟨_, rfl, .inl ⟨rfl, _, .inl (.inl ho11)⟩, _, rfl, o, _, _, idxS os y, .str y, rfl, rfl, .inl (.inl ho11), rfl, flat_strs _, (idx_at hy2).1, (idx_at hy2).2.1, (idx_at hy2).2.2, ?_⟩
          refine ⟨_, _, rfl, rfl, _, rfl, ite2 (fun e2 => ?_) (fun e2 => ?_)⟩
          · refine ⟨_, rfl, b, 3, _, rfl, by decide, by decide, by omega, B11, fun d3 H12 q1 q2 B12 e12 => .inl ⟨_, _, rfl, rfl, B12.mono (by omega), e711.trans e12, _, ?_, ?_, fun z => ?_, rfl⟩⟩
            · omega
            · omega
            · omega
          · refine ⟨B11.mono (by omega), e711, lg, hlg0, hlg1, fun _ => ?_, rfl⟩
            have : ¬ ((idxS os y : Int) ≤ (idxS os x : Int)) := fun z => e2 (decide_eq_true z)
            omega
        · refine ⟨B11.mono (by omega), e711, lg, hlg0, hlg1, fun z => ?_, rfl⟩
          subst z
          exact absurd (decide_eq_true rfl) e0
      · rintro σ' H12 ⟨B12, e12, lg', g0, g1, gr, rfl⟩
        have ht12 := e12 _ _ hbt.symm ht7
        refine ⟨_, rfl, .inl ⟨rfl, _, .inl (.inl ht12)⟩, _, rfl, _, rfl, _, rfl, sz 3, fun Tn hTn => ⟨tl, _, _, rfl, rfl, same_upd hTn _ _ ht12, ?_, ?_⟩⟩
        · rw [List.length_map]
          have := hT7.length
          exact Nat.lt_of_lt_of_le (by omega) (sz 1000)
        have sT : Same H12 (upd H12 Tn (.tup [.str x, .str y, .int lg'])) := same_upd hTn
        have hbTn : b ≠ Tn := B12.ne hTn
        have hTT := (hT7.keep fun z hz r hr => e12 _ _ (hTb z hz) hr).same sT
        have key : ∀ a u, a ≠ tl → (upd H12 Tn (.tup [.str x, .str y, .int lg'])) a = some u → (upd (upd H12 Tn (.tup [.str x, .str y, .int lg'])) tl (.lst (ts.map V.ref ++ [.ref Tn]))) a = some u := fun a u ha h => by
          rw [upd_ne ha]
          exact h
        have nT : Tn ≠ tl := fun e => by
          rw [e, ht12] at hTn
          cases hTn
        refine ⟨((B12.new hTn).upd hbt).mono (by omega), ((e7.trans e12).trans (Pu.Ext.new hTn)).mut t0, key _ _ hlt (sT _ _ (e12 _ _ hbl.symm hl7)), key _ _ hot (sT _ _ (e12 _ _ hbo.symm ho7)), key _ _ (fun e => by rw [← e, e12 _ _ hbc.symm hc7] at ht12; cases ht12) (sT _ _ (e12 _ _ hbc.symm hc7)), ts ++ [Tn], ties ++ [(x, y, lg')], _, _, _, _, by rw [List.length_append, hti]; rfl, by rw [upd_same, List.map_append]; rfl, ?_, ?_, ?_, rfl⟩
        · refine TiesAt.snoc (hTT.keep fun z hz r hr => key _ _ (fun e => ?_) hr) (key _ _ nT upd_same)
          rw [e, sT _ _ ht12] at hr
          cases hr
        · intro z hz
          rcases List.mem_append.mp hz with h | h
          · exact hTb z h
          · rw [List.mem_singleton.mp h]
            exact hbTn.symm
        · intro t ht
          rcases List.mem_append.mp ht with h | h
          · exact hTk t h
          · rw [List.mem_singleton.mp h]
            exact ⟨hxm, hym, g0, g1, gr⟩
    · obtain ⟨B7, e7, hl7, ho7, hc7, ts, ties, v8, v9, v10, v11, hti, ht7, hT7, hTb, hTk, rfl⟩ := pv
      have e7s : ∀ {H' : Hp}, Pu.Ext b H7 H' → TiesAt H' ts ties := fun e => hT7.keep fun z hz r hr => e _ _ (hTb z hz) hr
      refine ⟨_, rfl, _, rfl, b, l, es.map V.str, _, rfl, .inl (.inl (.inl hl7)), by rw [List.length_map]; omega, by omega, B7, fun l2 ys H8 B8 e8 nl2 hl28 hperm2 => ⟨l2, rfl, ⟨_, .inl (.inl hl28)⟩, ?_⟩⟩
      obtain ⟨sh, rfl, hsh⟩ := perm_strs hperm2
      rw [List.length_map] at B8
      have hshl : sh.length = es.length := hsh.length_eq
      have hshn : sh.Nodup := hsh.nodup_iff.mpr ho.nd
      have hb2 : b ≠ l2 := B7.ne nl2
      have l20 : H l2 = none := e7.fresh B7 nl2
      have ht8 := e8 _ _ hbt.symm ht7
      have hc8 := e8 _ _ hbc.symm hc7
      have htc : tl ≠ cp := fun e => by rw [e, hc8] at ht8; cases ht8
      have hlc : l ≠ cp := fun e => by rw [e, hc7] at hl7; cases hl7
      have h2c : l2 ≠ cp := fun e => by rw [e, hc8] at hl28; cases hl28
      refine for_it (walk_list (K := K) (a := l2) (xs := sh.map V.str)) (PInv2 b l o tl cp mo great lim es sh ts ties H (n + 200) l2) ⟨B8.mono (by omega), e7.trans e8, e8 _ _ hbl.symm hl7, ht8, e7s e8, hl28, [], v8, v9, v10, v11, none, hc8, Nat.le_refl _, fun _ h => absurd h List.not_mem_nil, List.nodup_nil, fun _ => ⟨fun e he => absurd he List.not_mem_nil, fun _ h => absurd h List.not_mem_nil⟩, rfl⟩
        (fun i σ H' _ p => .inl (.inl p.2.2.2.2.2.1)) (fun i x σ H9 H9' hi pv yv => ?_) (fun σ H9 pv => ?_)
      · obtain ⟨rfl, hx⟩ := yv
        rw [List.length_map] at hi
        rw [List.getElem?_map, List.getElem?_eq_getElem hi] at hx
        cases hx
        obtain ⟨B9, e9, hl9, ht9, hT9, hl29, cs, w8, w9, w10, w11, w12, hc9, hcl, hck, hcn, hcm, rfl⟩ := pv
        have hin : sh[i] ∈ sh.take (i + 1) := by
          rw [List.take_add_one, List.getElem?_eq_getElem hi]
          exact List.mem_append_right _ (List.mem_singleton.mpr rfl)
        have hsub : ∀ e, e ∈ sh.take i → e ∈ sh.take (i + 1) := fun e he => by
          rw [List.take_add_one]
          exact List.mem_append_left _ he
        have hout : sh[i] ∉ sh.take i := fun hm => by
          obtain ⟨j, hj, e⟩ := List.getElem_of_mem hm
          rw [List.getElem_take] at e
          rw [List.length_take] at hj
          have := (List.getElem_inj (h₀ := by omega) (h₁ := hi) hshn).mp e
          omega
        -- with one limit more
        have inv : ∀ (v : Int) (H' : Hp), Box H' b (n + 200 + 300 + 8 * i + 6) → Pu.Ext b H9' H' → 0 ≤ v → v ≤ great + 3 → (lim = true → v ≤ 3) →
            PInv2 b l o tl cp mo great lim es sh ts ties H (n + 200) l2 (i + 1) [some (.ref b), some (.int mo), some (.int great), some (.bl lim), some (.ref l), some (.ref o), some (.ref tl), some (.ref cp), w8, w9, w10, w11, some (.str sh[i])] (upd H' cp (.dK (putK (capsV cs) (.inr sh[i]) (.int v)))) := by
          intro v H' B' e' v0 v1 v2
          have hp : putK (capsV cs) (.inr sh[i]) (.int v) = capsV (cs ++ [(sh[i], v)]) := by
            rw [putK_fresh fun p hp => ?_]
            · unfold capsV
              rw [List.map_append]
              rfl
            · unfold capsV at hp
              obtain ⟨c, hc, rfl⟩ := List.mem_map.mp hp
              intro e
              have e2 : c.1 = sh[i] := Sum.inr.inj e
              exact hout (e2 ▸ (hck c hc).1)
          rw [hp]
          have key : ∀ a u, a ≠ cp → H' a = some u → (upd H' cp (.dK (capsV (cs ++ [(sh[i], v)])))) a = some u := fun a u ha h => by
            rw [upd_ne ha]
            exact h
          refine ⟨(B'.upd hbc).mono (by omega), (e9.trans e').mut c0, key _ _ hlc (e' _ _ hbl.symm hl9), key _ _ htc (e' _ _ hbt.symm ht9), ?_, key _ _ h2c (e' _ _ hb2.symm hl29), cs ++ [(sh[i], v)], _, _, _, _, _, upd_same, by rw [List.length_append]; show _ + 1 ≤ _; omega, fun c hc => ?_, ?_, fun hlim => ⟨fun e he => ?_, fun c hc => ?_⟩, rfl⟩
          · refine hT9.keep fun z hz r hr => key _ _ (fun e => ?_) (e' _ _ (hTb z hz) hr)
            rw [e, hc9] at hr
            cases hr
          · rcases List.mem_append.mp hc with h | h
            · exact ⟨hsub _ (hck c h).1, (hck c h).2⟩
            · rw [List.mem_singleton.mp h]
              exact ⟨hin, v0, v1⟩
          · rw [List.map_append, List.nodup_append]
            refine ⟨hcn, by simp, fun a ha c hc e => ?_⟩
            obtain ⟨q0, hq0, rfl⟩ := List.mem_map.mp ha
            have hc : c ∈ [sh[i]] := hc
            rw [List.mem_singleton] at hc
            subst hc
            exact hout (e ▸ (hck q0 hq0).1)
          · rw [List.take_add_one, List.getElem?_eq_getElem hi] at he
            rcases List.mem_append.mp he with h | h
            · obtain ⟨c, hc, e2⟩ := (hcm hlim).1 e h
              exact ⟨c, List.mem_append_left _ hc, e2⟩
            · have h : e ∈ [sh[i]] := h
              exact ⟨(sh[i], v), List.mem_append_right _ (List.mem_singleton.mpr rfl), (List.mem_singleton.mp h).symm⟩
          · rcases List.mem_append.mp hc with h | h
            · exact (hcm hlim).2 c h
            · rw [List.mem_singleton.mp h]
              exact v2 hlim
        have hsz : (capsV cs).length < sizeLine := by
          unfold capsV
          rw [List.length_map]
          exact Nat.lt_of_lt_of_le (by omega) (sz 1000)
        have put : ∀ (D : Ends) (H' : Hp), Box H' b (n + 200 + 300 + 8 * i + 1) → Pu.Ext b H9' H' → (∀ σ' H'', PInv2 b l o tl cp mo great lim es sh ts ties H (n + 200) l2 (i + 1) σ' H'' → D.nx σ' H'') →
            sDPut (tVar 7) (tVar 12) (tOp (rIxL K) (tLst (tCons (tCall spTake [] E0 (tCons (tVar 0) (tCons (tC (V.int 4)) tNil))) (tCons (tCall spTake [] E0 (tCons (tVar 0) (tCons (tVar 2) tNil))) tNil))) (tCB (fun xs H Q => (∃ i, xs = [V.int i] ∧ Q (V.int i) H) ∨ ∃ k, xs = [V.bl k] ∧ Q (V.int (if k = true then 1 else 0)) H) (tCons (tAndV (tNotV (tVar 3)) (tOp rEq (tCall spTake [] E0 (tCons (tVar 0) (tCons (tC (V.int 2)) tNil))) (tC (V.int 0)))) tNil))) D
              [some (.ref b), some (.int mo), some (.int great), some (.bl lim), some (.ref l), some (.ref o), some (.ref tl), some (.ref cp), w8, w9, w10, w11, some (.str sh[i])] H' := by
          intro D H' B' e' hD
          refine ⟨_, rfl, b, 4, _, rfl, by decide, by decide, by omega, B', fun d4 J1 f1 f2 C1 g1 => ⟨_, rfl, _, rfl, b, great, _, rfl, hg0, hg1, by omega, C1, fun dg J2 f3 f4 C2 g2 => ⟨sz 2, fun L hL => ?_⟩⟩⟩
          have hbL : b ≠ L := C2.ne hL
          have C3 := C2.new (o := .lst [.int d4, .int dg]) hL
          have g3 : Pu.Ext b H9' (upd J2 L (.lst [.int d4, .int dg])) := e'.trans (g1.trans (g2.trans (Pu.Ext.new hL)))
          have hL3 : (upd J2 L (.lst [.int d4, .int dg])) L = some (.lst [.int d4, .int dg]) := upd_same
          revert C3 g3 hL3
          generalize upd J2 L (.lst [.int d4, .int dg]) = J3
          intro C3 g3 hL3
          cases lim with
          | true =>
            exact ⟨_, rfl, true, rfl, false, rfl, .inr ⟨false, rfl, L, _, ((0 : Nat) : Int), .int d4, rfl, rfl, .inl (.inl hL3), atI_nat rfl, _, rfl, _, rfl, cp, _, rfl, .inl ⟨capsV cs, .inr sh[i], g3 _ _ hbc.symm hc9, rfl, hsz, rfl⟩, hD _ _ (inv d4 J3 (C3.mono (by omega)) g3 f1 (by omega) (fun _ => by omega))⟩⟩
          | false =>
            refine ⟨_, rfl, false, rfl, true, rfl, _, rfl, b, 2, _, rfl, by decide, by decide, by omega, C3, fun d2 J4 f5 f6 C4 g4 => ⟨rfl, .inr ⟨_, rfl, ?_⟩⟩⟩
            have hL4 := g4 _ _ hbL.symm hL3
            have g5 := g3.trans g4
            by_cases hz2 : V.int d2 = V.int 0
            · rw [decide_eq_true hz2]
              exact ⟨L, _, ((1 : Nat) : Int), .int dg, rfl, rfl, .inl (.inl hL4), atI_nat rfl, _, rfl, _, rfl, cp, _, rfl, .inl ⟨capsV cs, .inr sh[i], g5 _ _ hbc.symm hc9, rfl, hsz, rfl⟩, hD _ _ (inv dg J4 (C4.mono (by omega)) g5 f3 (by omega) (fun z => nomatch z))⟩
            · rw [decide_eq_false hz2]
              exact ⟨L, _, ((0 : Nat) : Int), .int d4, rfl, rfl, .inl (.inl hL4), atI_nat rfl, _, rfl, _, rfl, cp, _, rfl, .inl ⟨capsV cs, .inr sh[i], g5 _ _ hbc.symm hc9, rfl, hsz, rfl⟩, hD _ _ (inv d4 J4 (C4.mono (by omega)) g5 f1 (by omega) (fun _ => by omega))⟩
        have hv3 : lim = true ∨ lim = false := by cases lim <;> simp
        rcases hv3 with hlim | hlim
        · exact ⟨_, rfl, true, by rw [hlim], put _ _ (B9.mono (by omega)) (Pu.Ext.refl _) fun _ _ h => h⟩
        · refine ⟨_, rfl, false, by rw [hlim], _, rfl, b, 3, _, rfl, by decide, by decide, by omega, B9, fun d3 J1 f1 f2 C1 g1 => ⟨rfl, _, rfl, ite2 (fun _ => put _ _ (C1.mono (by omega)) g1 fun _ _ h => h) (fun _ => ?_)⟩⟩
          refine ⟨C1.mono (by omega), e9.trans g1, g1 _ _ hbl.symm hl9, g1 _ _ hbt.symm ht9, hT9.keep fun z hz r hr => g1 _ _ (hTb z hz) hr, g1 _ _ hb2.symm hl29, cs, _, _, _, _, _, g1 _ _ hbc.symm hc9, by omega, fun c hc => ⟨hsub _ (hck c hc).1, (hck c hc).2⟩, hcn, fun z => ?_, rfl⟩
          rw [hlim] at z
          cases z
      · obtain ⟨B9, e9, hl9, ht9, hT9, hl29, cs, w8, w9, w10, w11, w12, hc9, hcl, hck, hcn, hcm, rfl⟩ := pv
        rw [List.length_map, List.take_length] at hck hcm
        refine ⟨_, rfl, _, rfl, _, rfl, sz 3, fun m hm => ?_⟩
        have sm : Same H9 (upd H9 m (.lst [.ref l, .ref tl, .ref cp])) := same_upd hm
        refine q m ⟨es, ties, cs⟩ _ ((B9.new hm).mono (by rw [List.length_map]; omega)) (e9.trans (Pu.Ext.new hm)) (e9.fresh B9 hm) ⟨l, tl, cp, ts, upd_same, sm _ _ hl9, sm _ _ ht9, hT9.same sm, sm _ _ hc9, (B9.ne hm).symm, hbl.symm, hbt.symm, hbc.symm, hTb⟩
          ⟨⟨ho, by show ties.length ≤ 60; omega, fun t ht => ⟨(hTk t ht).1, (hTk t ht).2.1, (hTk t ht).2.2.1⟩, fun c hc => ⟨hsh.mem_iff.mp (hck c hc).1, (hck c hc).2.1⟩, hcn, idxS os, fun t ht => (hTk t ht).2.2.2.2⟩, by show es.length ≤ mo; omega, by show ties.length ≤ 2 * es.length + 2; omega, fun t ht => (hTk t ht).2.2.2.1, fun c hc => (hck c hc).2.2, fun z => ⟨fun e he => ?_, (hcm z).2⟩⟩
        exact (hcm z).1 e (hsh.mem_iff.mpr he)

end
end Pk

set_option Elab.async false
set_option linter.all false
set_option maxRecDepth 100000
set_option maxHeartbeats 4000000
namespace Pk
open PySem PySem.Spec PyProof.Rows L2 Pu
abbrev s_law_made : Stmt := topS 68
theorem sc_law_made : FnScope ["_law_box_here", "_law_model", "_law_events", "_law_ties", "_law_caps"] ["_law_box_here", "_law_model"] (defScope s_law_made) := ⟨rfl, rfl, rfl, by decide +kernel, rfl, by decide +kernel, by decide +kernel⟩

section
variable {P : Program} {w : World} {K : PySem.W.Frag} {mg : Str → Option Value} {base : Heap}
/-! ### the plan itself -/
theorem sqt_box {b a : Addr} {H H' : Hp} {n : Int} {xs : List V} (h : SqT K H a xs) (B : Box H b n) (e : Pu.Ext b H H') : SqT K H' a xs := by
  obtain ⟨x, y, z, hb, _⟩ := B
  rcases h with (h | ⟨o, h⟩) | h
  · exact .inl (.inl (e _ _ (ne_of h hb (fun z => nomatch z)) h))
  · exact .inl (.inr ⟨o, e _ _ (ne_of h hb (fun z => nomatch z)) h⟩)
  · exact .inr h
theorem PlanAt.ext {C b p : Addr} {H H' : Hp} {n : Int} {d : PlanD} (h : PlanAt K C H p d) (B : Box H b n) (e : Pu.Ext b H H') : PlanAt K C H' p d := by
  obtain ⟨x, y, z, hb, _⟩ := id B
  obtain ⟨dx, o, r, c, ts, h1, h2, h3, h4, h5⟩ := h.ex
  exact ⟨dx, o, r, c, ts, e _ _ (ne_of h1 hb (fun z => nomatch z)) h1, sqt_box h2 B e, sqt_box h3 B e, h4.keep fun x _ r hr => e _ _ (ne_of hr hb (fun z => nomatch z)) hr, e _ _ (ne_of h5 hb (fun z => nomatch z)) h5⟩
def spMade (K : PySem.W.Frag) (C : Addr) : Sp := fun vs H Q _ => ∃ (b m : Addr) (n : Int) (d : PlanD), vs = [.ref b, .ref m] ∧ ModAt b H m d ∧ PlanOk d ∧ n ≤ 900000 ∧ Box H b n ∧
  ∀ p H', Box H' b (n + 2) → Pu.Ext b H H' → H p = none → PlanAt K C H' p d → Q (.ref p) H'
theorem ok_made {C f : Addr} {fd : FuncData} (F : Fun K "_law_made" "_law_made" s_law_made f fd) (T : Txt mg) (claw_take : Cal P w K mg base 1 "_law_take" spTake []) (cPlan : CalMk P w K mg base CX0 5 "Plan" C "limits" (spInit K C)) :
    FnOk P w K mg base CX0 7 f fd ["_law_box_here", "_law_model"] (spMade K C) := by
  have nd := sc_law_made.nd
  refine F.ok sc_law_made (fun vs H Q E h => ?_) (fun cdv A outer s H vs Q E hr h => ?_)
  · obtain ⟨_, _, _, _, rfl, _⟩ := h
    rfl
  · obtain ⟨b, m, n, d, rfl, hm, ok, hn, hB, q⟩ := h
    refine ⟨_, (pss_cons (ps_asg (pv 1) (pg_unl rfl (pgs_cons (pg_name (i := 2) nd rfl (Or.inl rfl)) (pgs_cons (pg_name (i := 3) nd rfl (Or.inl rfl)) (pgs_cons (pg_name (i := 4) nd rfl (Or.inl rfl)) pgs_nil)))))
      (pss_cons (ps_if (pt_cmpR (op_eqB K hr) (pv 4) pe_dnewK (by rfl))
      (pss_one (ps_ret (pe_mk cPlan hr (by decide) rfl pass0 (pa_cons (pe_ix (ixL K) (pe_lst (pa_cons (pv 2) (pa_cons (pe_callTy (tupNew K) (by rfl) T.m_tuple PyProof.Rows.boot_tuple (pa_cons (pv 2) pa_nil)) pa_nil))) (pe_c claw_take hr (by decide) rfl (pa_cons (pv 0) (pa_cons pe_int pa_nil))) (fun _ _ => rfl)) (pa_cons (pe_ix (ixL K) (pe_lst (pa_cons (pv 3) (pa_cons (pe_callTy (tupNew K) (by rfl) T.m_tuple PyProof.Rows.boot_tuple (pa_cons (pv 3) pa_nil)) pa_nil))) (pe_c claw_take hr (by decide) rfl (pa_cons (pv 0) (pa_cons pe_int pa_nil))) (fun _ _ => rfl)) pa_nil))))) pss_nil)
      (pss_one (ps_ret (pe_mkK cPlan hr (by decide) rfl pass0 (pa_cons (pv 2) (pa_cons (pv 3) pa_nil)) (pk_cons (pe_callTy call_dictD (by rfl) T.m_dict PyProof.Rows.boot_dict (pa_cons (pv 4) pa_nil)) pk_nil)))))), ?_⟩
    obtain ⟨e, t, c, ts, h1, h2, h3, h4, h5, n1, n2, n3, n4, n5⟩ := hm
    have fin : ∀ (H5 : Hp) (A1 A2 : Addr) (l : V) (EE : XK), Box H5 b (n + 2) → Pu.Ext b H H5 → Sq K H5 A1 (d.evs.map V.str) → Sq K H5 A2 (ts.map V.ref) → TiesAt H5 ts d.ties → LimsAt H5 l d.caps →
        ∀ x dx, H5 x = none → H5 dx = none → dx ≠ x → spInit K C [.ref x, .ref A1, .ref A2, l] (upd (upd H5 dx (.own x)) x (.ins C dx [])) (fun v H2 => v = .non ∧ Q (.ref x) H2) EE := by
      intro H5 A1 A2 l EE B5 e5 q1 q2 ht hl x dx hx hdx hne
      have sx : Same H5 (upd (upd H5 dx (.own x)) x (.ins C dx [])) := Same.trans (same_upd hdx) (same_upd (by rw [upd_ne hne.symm]; exact hx))
      refine ⟨x, dx, A1, A2, l, ts, d, rfl, upd_same, sq_same q1 sx, sq_same q2 sx, ht.same sx, hl.same sx, ok, fun H6 e6 hp6 => ⟨rfl, q x H6 ?_ (fun a o ha h => ?_) (e5.fresh B5 hx) hp6⟩⟩
      · obtain ⟨u, v, w, hb, r⟩ := B5.same sx
        exact ⟨u, v, w, e6 _ _ (B5.ne hx) hb, r⟩
      · have h5 := e5 _ _ ha h
        exact e6 _ _ (ne_of_none h5 hx) (sx _ _ h5)
    refine ⟨_, rfl, m, _, rfl, .inl (.inl h1), rfl, _, _, rfl, _, _, rfl, _, _, rfl, rfl, ?_⟩
    refine ⟨_, rfl, fun dn hdn => ⟨0, decide (d.caps = []), by decide, ⟨c, dn, rfl, rfl, fun z => ?_, ?_⟩, ?_⟩⟩
    · subst z
      rw [h5] at hdn
      cases hdn
    · have hc : (upd H dn (.dK [])) c = some (.dK (capsV d.caps)) := same_upd hdn _ _ h5
      by_cases hz : d.caps = []
      · refine .inr (.inr (.inr (.inl ⟨_, _, true, hc, upd_same, ?_, ?_, decide_eq_true hz⟩)))
        · rw [hz]
          rfl
        · rw [hz]
          exact .nil
      · refine .inr (.inr (.inr (.inr ⟨_, _, hc, upd_same, ?_, decide_eq_false hz⟩)))
        intro z
        unfold capsV at z
        rw [List.length_map] at z
        exact hz (List.eq_nil_of_length_eq_zero z)
    have sd : Same H (upd H dn (.dK [])) := same_upd hdn
    have B0 : Box (upd H dn (.dK [])) b n := hB.new hdn
    revert sd B0
    generalize upd H dn (.dK []) = H0
    intro sd B0
    have e0 := same_ext (b := b) sd
    have e0' := e0 _ _ n2 h2
    have t0' := e0 _ _ n3 h3
    have hts : ∀ {H' : Hp}, Pu.Ext b H H' → TiesAt H' ts d.ties := fun g => h4.keep fun z hz r hr => g _ _ (n5 z hz) hr
    refine ⟨_, rfl, ite2 (fun ec => ?_) (fun ec => ?_)⟩
    · have hcaps : d.caps = [] := of_decide_eq_true ec
      refine ⟨_, rfl, _, rfl, e, _, rfl, .inl (.inl (.inl e0')), fun o1 H1 s1 ho1 => ⟨sz 2, fun L1 hL1 => ⟨_, rfl, b, 2, _, rfl, by decide, by decide, by omega, (B0.same s1).new hL1, fun d1 H2 g1 g2 B2 e2 => ?_⟩⟩⟩
      have e02 : Pu.Ext b H0 H2 := (same_ext s1).trans ((Pu.Ext.new hL1).trans e2)
      have ho2 : SqT K H2 o1 (d.evs.map V.str) := sqt_box (sqt_same ho1 (same_upd hL1)) ((B0.same s1).new hL1) e2
      have hL2 := e2 _ _ ((B0.same s1).ne hL1).symm upd_same
      obtain ⟨v1, hv1, hm1⟩ := pickN (xs := [V.ref e, .ref o1]) g1 (by show d1 < 2; exact g2)
      obtain ⟨A1, rfl, hA1⟩ : ∃ A1, v1 = .ref A1 ∧ (A1 = e ∨ A1 = o1) := by
        simp only [List.mem_cons, List.not_mem_nil, or_false] at hm1
        rcases hm1 with rfl | rfl
        · exact ⟨_, rfl, .inl rfl⟩
        · exact ⟨_, rfl, .inr rfl⟩
      refine ⟨L1, _, _, _, rfl, rfl, .inl (.inl hL2), hv1, ?_⟩
      refine ⟨_, rfl, _, rfl, t, _, rfl, .inl (.inl (.inl (e02 _ _ n3 t0'))), fun o2 H3 s3 ho3 => ⟨sz 2, fun L2 hL3 => ⟨_, rfl, b, 2, _, rfl, by decide, by decide, by omega, (B2.same s3).new hL3, fun d2 H4 g3 g4 B4 e4 => ?_⟩⟩⟩
      have e04 : Pu.Ext b H0 H4 := e02.trans ((same_ext s3).trans ((Pu.Ext.new hL3).trans e4))
      have ho4 : SqT K H4 o2 (ts.map V.ref) := sqt_box (sqt_same ho3 (same_upd hL3)) ((B2.same s3).new hL3) e4
      have ho4' : SqT K H4 o1 (d.evs.map V.str) := sqt_box (sqt_same (sqt_same ho2 s3) (same_upd hL3)) ((B2.same s3).new hL3) e4
      have hL4 := e4 _ _ ((B2.same s3).ne hL3).symm upd_same
      obtain ⟨v2, hv2, hm2⟩ := pickN (xs := [V.ref t, .ref o2]) g3 (by show d2 < 2; exact g4)
      obtain ⟨A2, rfl, hA2⟩ : ∃ A2, v2 = .ref A2 ∧ (A2 = t ∨ A2 = o2) := by
        simp only [List.mem_cons, List.not_mem_nil, or_false] at hm2
        rcases hm2 with rfl | rfl
        · exact ⟨_, rfl, .inl rfl⟩
        · exact ⟨_, rfl, .inr rfl⟩
      refine ⟨L2, _, _, _, rfl, rfl, .inl (.inl hL4), hv2, fin H4 A1 A2 .non _ (B4.mono (by omega)) (e0.trans e04) ?_ ?_ (hts (e0.trans e04)) (.inl ⟨rfl, hcaps⟩)⟩
      · rcases hA1 with rfl | rfl
        · exact .inl (.inl (.inl (e04 _ _ n2 e0')))
        · exact .inr ho4'
      · rcases hA2 with rfl | rfl
        · exact .inl (.inl (.inl (e04 _ _ n3 t0')))
        · exact .inr ho4
    · refine ⟨_, rfl, _, rfl, _, rfl, c, _, rfl, .inl (e0 _ _ n4 h5), fun cn hcn => ⟨rfl, rfl, ?_⟩⟩
      have sn : Same H0 (upd H0 cn (.dK (capsV d.caps))) := same_upd hcn
      exact fin _ e t (.ref cn) _ ((B0.same sn).mono (by omega)) (e0.trans (same_ext sn)) (.inl (.inl (.inl (sn _ _ e0')))) (.inl (.inl (.inl (sn _ _ t0')))) (hts (e0.trans (same_ext sn))) (.inr ⟨cn, rfl, upd_same⟩)

end
end Pk

set_option Elab.async false
set_option linter.all false
set_option maxRecDepth 100000
set_option maxHeartbeats 4000000
namespace Pk
open PySem PySem.Spec PyProof.Rows L2 Pu
abbrev s_law_broken : Stmt := topS 69
theorem sc_law_broken : FnScope ["_law_model", "_law_counts", "_law_k", "_law_earlier", "_law_later", "_law_lag", "_law_event"] ["_law_model", "_law_counts"] (defScope s_law_broken) := ⟨rfl, rfl, rfl, by decide +kernel, rfl, by decide +kernel, by decide +kernel⟩
abbrev s_law_zero : Stmt := topS 70
theorem sc_law_zero : FnScope ["_law_model", "_law_event"] ["_law_model"] (defScope s_law_zero) := ⟨rfl, rfl, rfl, by decide +kernel, rfl, by decide +kernel, by decide +kernel⟩
abbrev s_law_with : Stmt := topS 71
theorem sc_law_with : FnScope ["_law_counts", "_law_event", "_law_step", "_law_found"] ["_law_counts", "_law_event", "_law_step"] (defScope s_law_with) := ⟨rfl, rfl, rfl, by decide +kernel, rfl, by decide +kernel, by decide +kernel⟩

section
variable {P : Program} {w : World} {K : PySem.W.Frag} {mg : Str → Option Value} {base : Heap}
/-! ### the law's own moments -/
def spBroken : Sp := fun vs H Q _ => ∃ (b m c : Addr) (d : PlanD) (kvs : List (Key × V)), vs = [.ref m, .ref c] ∧ ModAt b H m d ∧ PlanOk d ∧ H c = some (.dK kvs) ∧ countsB d.evs kvs = true ∧ BarQ d (cntOf kvs) H Q
theorem ok_broken {f : Addr} {fd : FuncData} (F : Fun K "_law_broken" "_law_broken" s_law_broken f fd) (T : Txt mg) : FnOk P w K mg base CX0 1 f fd ["_law_model", "_law_counts"] spBroken := by
  have nd := sc_law_broken.nd
  refine F.ok sc_law_broken (fun vs H Q E h => ?_) (fun cdv A outer s H vs Q E hr h => ?_)
  · obtain ⟨_, _, _, _, _, rfl, _⟩ := h
    rfl
  · obtain ⟨b, m, cA, d, kvs, rfl, hm, ok, hcA, hcB, B⟩ := h
    have hu : (A.deeper (envOfC "_law_broken" (defScope s_law_broken) s.heap.objs.size f cdv)).units + 1 < cLine := by
      have := hr.units
      omega
    refine ⟨_, (pss_cons (ps_for PassesOwn.never rfl (pi_enum rfl T.m_enumerate (pa_cons (pe_ix (ixL K) (pv 0) pe_int (fun _ _ => rfl)) pa_nil)) (pg_tup rfl (pgs_cons (pg_name (i := 2) nd rfl (Or.inl rfl)) (pgs_cons (pg_tup rfl (pgs_cons (pg_name (i := 3) nd rfl (Or.inl rfl)) (pgs_cons (pg_name (i := 4) nd rfl (Or.inl rfl)) (pgs_cons (pg_name (i := 5) nd rfl (Or.inl rfl)) pgs_nil)))) pgs_nil)))
      (pss_one (ps_if (pt_cmpR op_gt (pe_op op_sub (pe_dget hu (pv 1) (pv 4) (fun _ _ => rfl)) (pe_dget hu (pv 1) (pv 3) (fun _ _ => rfl))) (pv 5) (by rfl))
      (pss_one (ps_ret (pe_tup (pa_cons pe_str (pa_cons (pv 2) pa_nil))))) pss_nil)))
      (pss_cons (ps_for PassesOwn.never rfl (pi_list (pe_ix (ixL K) (pv 0) pe_int (fun _ _ => rfl))) (pg_name (i := 6) nd rfl (Or.inl rfl))
      (pss_one (ps_if (PW.pt (pw_and (pt_cmp (pc_din hu (pv 6) (pe_ix (ixL K) (pv 0) pe_int (fun _ _ => rfl))) (by rfl)) (pw_and1 (pt_cmpR op_gt (pe_dget hu (pv 1) (pv 6) (fun _ _ => rfl)) (pe_dget hu (pe_ix (ixL K) (pv 0) pe_int (fun _ _ => rfl)) (pv 6) (fun _ _ => rfl)) (by rfl)))))
      (pss_one (ps_ret (pe_tup (pa_cons pe_str (pa_cons (pv 6) pa_nil))))) pss_nil)))
      (pss_one (ps_ret pe_non)))), ?_⟩
    obtain ⟨e, t, c, ts, h1, h2, h3, h4, h5, _⟩ := hm
    refine ⟨_, rfl, m, _, ((1 : Nat) : Int), _, rfl, rfl, .inl (.inl h1), atI_nat rfl, t, _, rfl, .inl (.inl h3), ?_⟩
    refine for_it (walk_enum (K := K) (a := t) (xs := ts.map V.ref)) (fun i σ H' => Same H H' ∧ (∀ j < i, ∀ u, d.ties[j]? = some u → ¬ tieBad (cntOf kvs) u) ∧ ∃ v2 v3 v4 v5, σ = [some (.ref m), some (.ref cA), v2, v3, v4, v5, none]) ⟨Same.refl _, fun j hj => absurd hj (Nat.not_lt_zero _), _, _, _, _, rfl⟩ (fun i σ H' _ p => .inl (.inl (p.1 _ _ h3))) (fun i x σ H3 H4 hi pv yv => ?_) (fun σ H3 pv => ?_)
    · obtain ⟨s3, prev, v2, v3, v4, v5, rfl⟩ := pv
      obtain ⟨TT, u, z, rfl, nT, rfl, hu', hz⟩ := yv
      cases hu'
      obtain ⟨ct, t0, rfl, htm, hg, hcell⟩ := (h4.same s3).get hz
      have s4 : Same H (upd H3 TT (.tup [.int (i : Nat), .ref ct])) := Same.trans s3 (same_upd nT)
      have hcell' : (upd H3 TT (.tup [.int (i : Nat), .ref ct])) ct = some (.tup (rowV t0)) := same_upd nT _ _ hcell
      have hcA' := s4 _ _ hcA
      obtain ⟨i1, i2, _⟩ := ok.tin t0 htm
      have g1 := (cntOf_ok hcB i1).1
      have g2 := (cntOf_ok hcB i2).1
      refine ⟨TT, _, rfl, .inl (.inl upd_same), rfl, _, _, rfl, _, _, rfl, ct, _, rfl, .inl (.inl hcell'), rfl, _, _, rfl, _, _, rfl, _, _, rfl, rfl, rfl, ?_⟩
      refine ⟨_, rfl, _, rfl, cA, _, rfl, .inl ⟨kvs, .inr t0.2.1, .inl hcA', rfl, g2.symm⟩, _, rfl, _, rfl, cA, _, rfl, .inl ⟨kvs, .inr t0.1, .inl hcA', rfl, g1.symm⟩, _, _, rfl, rfl, _, rfl, _, _, rfl, rfl, _, rfl, ite2 (fun e => ?_) (fun e => ?_)⟩
      · have bad : tieBad (cntOf kvs) t0 := by
          have := of_decide_eq_true e
          unfold tieBad
          omega
        exact ⟨_, rfl, sz 2, fun q nq => B.tie i t0 hg bad prev q _ (Same.trans s4 (same_upd nq)) upd_same⟩
      · refine ⟨s4, fun j hj u hju => ?_, _, _, _, _, rfl⟩
        rcases Nat.lt_succ_iff_lt_or_eq.mp hj with h | h
        · exact prev j h u hju
        · subst h
          rw [hg] at hju
          cases hju
          intro bad
          exact e (decide_eq_true (by unfold tieBad at bad; omega))
    · obtain ⟨s3, prev, v2, v3, v4, v5, rfl⟩ := pv
      have noT : ∀ t ∈ d.ties, ¬ tieBad (cntOf kvs) t := by
        intro t0 ht
        obtain ⟨j, hj, e⟩ := List.getElem_of_mem ht
        have hlen : j < (ts.map V.ref).length := by
          rw [List.length_map, h4.length]
          exact hj
        exact prev j hlen t0 (by rw [List.getElem?_eq_getElem hj, e])
      have he3 := s3 _ _ h2
      refine ⟨_, rfl, m, _, ((0 : Nat) : Int), _, rfl, rfl, .inl (.inl (s3 _ _ h1)), atI_nat rfl, e, rfl, ⟨_, .inl (.inl he3)⟩, ?_⟩
      refine for_it (walk_list (K := K) (a := e) (xs := d.evs.map V.str)) (fun i σ H' => H' = H3 ∧ (∀ k : Nat, k < i → ∀ u, d.evs[k]? = some u → ¬ capBad (cntOf kvs) d.caps u) ∧ ∃ v2 v3 v4 v5 v7, σ = [some (.ref m), some (.ref cA), v2, v3, v4, v5, v7]) ⟨rfl, fun j hj => absurd hj (Nat.not_lt_zero _), _, _, _, _, _, rfl⟩ (fun i σ H' _ p => .inl (.inl (p.1 ▸ he3))) (fun i x σ H6 H7 hi pv yv => ?_) (fun σ H6 pv => ?_)
      · obtain ⟨rfl, prev, w2, w3, w4, w5, w7, rfl⟩ := pv
        obtain ⟨rfl, hx⟩ := yv
        rw [List.length_map] at hi
        rw [List.getElem?_map, List.getElem?_eq_getElem hi] at hx
        cases hx
        have hmem := List.getElem_mem hi
        have hc5 := s3 _ _ h5
        have hcA5 := s3 _ _ hcA
        have hm5 := s3 _ _ h1
        have g1 := (cntOf_ok hcB hmem).1
        have next : ¬ capBad (cntOf kvs) d.caps d.evs[i] → ∀ k : Nat, k < i + 1 → ∀ u, d.evs[k]? = some u → ¬ capBad (cntOf kvs) d.caps u := by
          intro nb k hk u hu2
          rcases Nat.lt_succ_iff_lt_or_eq.mp hk with h | h
          · exact prev k h u hu2
          · subst h
            rw [List.getElem?_eq_getElem hi] at hu2
            cases hu2
            exact nb
        refine ⟨_, rfl, _, rfl, m, _, ((2 : Nat) : Int), _, rfl, rfl, .inl (.inl hm5), atI_nat rfl, c, _, rfl, .inl ⟨capsV d.caps, .inr d.evs[i], .inl hc5, rfl, rfl⟩, _, rfl, ite2 (fun e1 => ?_) (fun e1 => ?_)⟩
        · obtain ⟨q, hq, e2⟩ := capsV_some e1
          have hv := valV_mem ok.cnd hq
          rw [e2] at hv
          refine ⟨_, rfl, _, rfl, cA, _, rfl, .inl ⟨kvs, .inr d.evs[i], .inl hcA5, rfl, g1.symm⟩, _, rfl, m, _, ((2 : Nat) : Int), _, rfl, rfl, .inl (.inl hm5), atI_nat rfl, _, rfl, c, _, rfl, .inl ⟨capsV d.caps, .inr d.evs[i], .inl hc5, rfl, hv.symm⟩, _, _, rfl, rfl, _, rfl, ite2 (fun e3 => ?_) (fun e3 => ?_)⟩
          · have bad : capBad (cntOf kvs) d.caps d.evs[i] := ⟨q, hq, e2, by have := of_decide_eq_true e3; omega⟩
            exact ⟨_, rfl, sz 2, fun z nz => B.cap noT i _ (List.getElem?_eq_getElem hi) bad prev z _ (Same.trans s3 (same_upd nz)) upd_same⟩
          · refine ⟨rfl, next ?_, _, _, _, _, _, rfl⟩
            rintro ⟨q', hq', e4, l4⟩
            have hv' := valV_mem ok.cnd hq'
            rw [e4, hv] at hv'
            have e5 : q.2 = q'.2 := V.int.inj (Option.some.inj hv')
            exact e3 (decide_eq_true (by omega))
        · refine ⟨rfl, next ?_, _, _, _, _, _, rfl⟩
          rintro ⟨q', hq', e4, l4⟩
          have hv' := valV_mem ok.cnd hq'
          rw [e4] at hv'
          exact e1 (by rw [hv']; rfl)
      · obtain ⟨rfl, prev, w2, w3, w4, w5, w7, rfl⟩ := pv
        refine B.none noT (fun e he => ?_) _ s3
        obtain ⟨j, hj, e2⟩ := List.getElem_of_mem he
        exact prev j (by rw [List.length_map]; exact hj) e (by rw [List.getElem?_eq_getElem hj, e2])
def spZero : Sp := fun vs H Q _ => ∃ (b m : Addr) (d : PlanD), vs = [.ref m] ∧ ModAt b H m d ∧ EvsOk d.evs ∧ ∀ q H', Same H H' → H q = none → H' q = some (.dK (mapC d.evs fun _ => 0)) → Q (.ref q) H'
theorem merge_self' {kvs : List (Key × V)} (h : (kvs.map (·.1)).Nodup) : mergeK [] kvs = kvs := by
  rw [merge_self kvs [] (by rw [List.nil_append]; exact h), List.nil_append]
theorem mapC_keys {es : List Str} (h : es.Nodup) (g : Str → Int) : ((mapC es g).map (·.1)).Nodup := by
  unfold mapC
  rw [List.map_map]
  refine List.Pairwise.map _ (fun a b hab => ?_) h
  exact fun e => hab (Sum.inr.inj e)
theorem ok_zero {f : Addr} {fd : FuncData} (F : Fun K "_law_zero" "_law_zero" s_law_zero f fd) (T : Txt mg) : FnOk P w K mg base CX0 1 f fd ["_law_model"] spZero := by
  have nd := sc_law_zero.nd
  refine F.ok sc_law_zero (fun vs H Q E h => ?_) (fun cdv A outer s H vs Q E hr h => ?_)
  · obtain ⟨_, _, _, rfl, _⟩ := h
    rfl
  · obtain ⟨b, m, d, rfl, hm, ho, q⟩ := h
    refine ⟨_, (pss_one (ps_ret (pe_callTy (call_dictP rfl) (by rfl) T.m_dict PyProof.Rows.boot_dict (pa_cons (pe_lc (own := [("_law_event", 1)]) (g := gName 1) (tt := tYes) rfl nd (pi_list (pe_ix (ixL K) (pv 0) pe_int (fun _ _ => rfl))) (blkOk_by (N := ["_law_model", "_law_event"]) (sc := defScope s_law_zero) (by decide +kernel)) (fun _ _ _ _ _ => pg_name (i := 1) nd rfl (Or.inl rfl)) (fun _ _ _ _ _ => pts_nil) (fun _ _ _ _ _ => (pe_tup (pa_cons (pv 1) (pa_cons pe_int pa_nil))))) pa_nil)))), ?_⟩
    obtain ⟨e, t, c, ts, h1, h2, h3, h4, h5, _⟩ := hm
    have hhi := ho.hi
    have wl := walk_list (K := K) (a := e) (xs := d.evs.map V.str)
    rw [List.length_map] at wl
    refine ⟨_, rfl, m, _, ((0 : Nat) : Int), _, rfl, rfl, .inl (.inl h1), atI_nat rfl, e, rfl, ⟨_, .inl (.inl h2)⟩, fun D hD => lc_obj (v := V.str) (xs := d.evs) wl hD (fun H' s => .inl (.inl (s _ _ h2))) (Nat.lt_of_lt_of_le (by omega) (sz 100)) (fun y x H' => ∃ a, y = .ref a ∧ H' a = some (.tup [.str x, .int 0])) (fun y x H' H'' h s => let ⟨a, e1, e2⟩ := h; ⟨a, e1, s _ _ e2⟩) (fun _ => rfl) (fun y x H' o h hl => ?_) (fun x hx H' s N hN => ?_) (fun ys H' s hy hp => ?_)⟩
    · obtain ⟨a, e1, e2⟩ := h
      obtain ⟨zs, hz⟩ := hl
      exact ⟨a, e1, by rw [upd_ne (ne_of e2 hz (fun z => nomatch z))]; exact e2⟩
    · exact ⟨_, rfl, sz 2, fun T hT => hN _ _ (same_upd hT) ⟨T, rfl, upd_same⟩⟩
    · have key : ∃ ps : List Addr, ys = ps.map V.ref ∧ Paired (fun p kv => SqT K H' p [kV kv.1, kv.2]) ps (mapC d.evs fun _ => 0) := by
        clear hy q h2 wl ho hhi hD s h1 hr
        revert hp
        generalize d.evs = es
        intro hp
        induction hp with
        | nil => exact ⟨[], rfl, .nil⟩
        | cons r _ ih =>
          obtain ⟨a, rfl, e2⟩ := r
          obtain ⟨ps, rfl, h⟩ := ih
          exact ⟨a :: ps, rfl, .cons (.inl (.inl e2)) h⟩
      obtain ⟨ps, rfl, hps⟩ := key
      refine ⟨D, ps, _, rfl, .inl (.inl hy), hps, fun z nz => q z _ (Same.trans s (same_upd nz)) ?_ (by rw [upd_same, merge_self' (mapC_keys ho.nd _)])⟩
      cases hh : H z with
      | none => rfl
      | some o => rw [s _ _ hh] at nz; cases nz
def spWith : Sp := fun vs H Q _ => ∃ (c : Addr) (e : Str) (n : Int) (kvs : List (Key × V)), vs = [.ref c, .str e, .int n] ∧ H c = some (.dK kvs) ∧ kvs.length ≤ 1000 ∧ (kvs.map (·.1)).Nodup ∧ valV kvs (.inr e) = some (.int (cntOf kvs e)) ∧ ∀ q H', Same H H' → H q = none → H' q = some (.dK (stepK kvs e n)) → Q (.ref q) H'
theorem ok_with {f : Addr} {fd : FuncData} (F : Fun K "_law_with" "_law_with" s_law_with f fd) (T : Txt mg) : FnOk P w K mg base CX0 1 f fd ["_law_counts", "_law_event", "_law_step"] spWith := by
  have nd := sc_law_with.nd
  refine F.ok sc_law_with (fun vs H Q E h => ?_) (fun cdv A outer s H vs Q E hr h => ?_)
  · obtain ⟨_, _, _, _, rfl, _⟩ := h
    rfl
  · obtain ⟨c, e, n, kvs, rfl, hc, hl, hnd, hv, q⟩ := h
    have hu : (A.deeper (envOfC "_law_with" (defScope s_law_with) s.heap.objs.size f cdv)).units + 1 < cLine := by
      have := hr.units
      omega
    refine ⟨_, (pss_cons (ps_set (i := 3) nd rfl (Or.inl rfl) (pe_callTy call_dictD (by rfl) T.m_dict PyProof.Rows.boot_dict (pa_cons (pv 0) pa_nil)))
      (pss_cons (ps_dput hu (pv 3) (pv 1) (pe_op oAdd (pe_dget hu (pv 0) (pv 1) (fun _ _ => rfl)) (pv 2)) rfl)
      (pss_one (ps_ret (pv 3))))), ?_⟩
    refine ⟨_, rfl, c, _, rfl, .inl hc, fun p np => ?_⟩
    have sp : Same H (upd H p (.dK kvs)) := same_upd np
    refine ⟨_, rfl, _, rfl, c, _, rfl, .inl ⟨kvs, .inr e, .inl (sp _ _ hc), rfl, hv.symm⟩, _, rfl, .inl ⟨_, _, rfl, rfl, _, rfl, _, rfl, p, _, rfl, .inl ⟨kvs, .inr e, upd_same, rfl, Nat.lt_of_le_of_lt hl (show 1000 < sizeLine by decide), rfl⟩, _, rfl, q p _ (same_put np sp) np (by rw [upd_same, stepK_eq hnd])⟩⟩

end
end Pk

set_option Elab.async false
set_option linter.all false
set_option maxRecDepth 100000
set_option maxHeartbeats 4000000
namespace Pk
open PySem PySem.Spec PyProof.Rows L2 Pu
abbrev s_law_run : Stmt := topS 72
theorem sc_law_run : FnScope ["_law_box_here", "_law_model", "_law_counts", "_law_many", "_law_run_here", "_law_k", "_law_event", "_law_some"] ["_law_box_here", "_law_model", "_law_counts", "_law_many"] (defScope s_law_run) := ⟨rfl, rfl, rfl, by decide +kernel, rfl, by decide +kernel, by decide +kernel⟩
abbrev s_law_turned : Stmt := topS 73
theorem sc_law_turned : FnScope ["_law_box_here", "_law_counts"] ["_law_box_here", "_law_counts"] (defScope s_law_turned) := ⟨rfl, rfl, rfl, by decide +kernel, rfl, by decide +kernel, by decide +kernel⟩

section
variable {P : Program} {w : World} {K : PySem.W.Frag} {mg : Str → Option Value} {base : Heap}
/-! ### a drawn run -/
def spRunL : Sp := fun vs H Q _ => ∃ (b m c : Addr) (mn : Nat) (n : Int) (d : PlanD) (kvs : List (Key × V)), vs = [.ref b, .ref m, .ref c, .int mn] ∧ mn ≤ 1000 ∧ n ≤ 900000 ∧ Box H b n ∧ ModAt b H m d ∧ PlanOk d ∧ H c = some (.dK kvs) ∧ Going d kvs ∧ momB d (cntOf kvs) = true ∧
  ∀ T r c' es ks H', Box H' b (n + mn) → Pu.Ext b H H' → H' T = some (.tup [.ref r, .ref c']) → T ≠ b → H r = none → H' r = some (.lst (es.map V.str)) → r ≠ b → H' c' = some (.dK ks) → es.length ≤ mn → (∀ e ∈ es, e ∈ d.evs) → walkC d (cntOf kvs) es 0 = .inl (cntOf ks) → Going d ks → momB d (cntOf ks) = true → ks.map (·.1) = kvs.map (·.1) → Q (.ref T) H'
theorem going_len {d : PlanD} {kvs : List (Key × V)} (g : Going d kvs) (h : d.evs.length ≤ 8) : kvs.length ≤ 1000 := by
  have h1 := g.cb
  unfold countsB at h1
  have h2 := of_decide_eq_true (Bool.and_eq_true_iff.mp h1).1
  omega
theorem ok_run {f : Addr} {fd : FuncData} (F : Fun K "_law_run" "_law_run" s_law_run f fd) (T : Txt mg) (claw_take : Cal P w K mg base 1 "_law_take" spTake []) (claw_with : Cal P w K mg base 1 "_law_with" spWith []) (claw_broken : Cal P w K mg base 1 "_law_broken" spBroken []) :
    FnOk P w K mg base CX0 2 f fd ["_law_box_here", "_law_model", "_law_counts", "_law_many"] spRunL := by
  have nd := sc_law_run.nd
  refine F.ok sc_law_run (fun vs H Q E h => ?_) (fun cdv A outer s H vs Q E hr h => ?_)
  · obtain ⟨_, _, _, _, _, _, _, rfl, _⟩ := h
    rfl
  · obtain ⟨b, m, c, mn, n, d, kvs, rfl, hmn, hn, hB, hm, ok, hc, hg, hmo, q⟩ := h
    refine ⟨_, (pss_cons (ps_set (i := 4) nd rfl (Or.inl rfl) (pe_lst pa_nil))
      (pss_cons (ps_for PassesOwn.never rfl (pi_range1 rfl T.m_range (pa_cons (pv 3) pa_nil)) (pg_name (i := 5) nd rfl (Or.inl rfl))
      (pss_cons (ps_setLc (i := 7) (y := "_law_some") (own := [("_law_event", 6)]) (g := gName 6) rfl nd rfl rfl (sw_true rfl rfl rfl (by decide +kernel)) (pi_list (pe_ix (ixL K) (pv 1) pe_int (fun _ _ => rfl))) (blkOk_by (N := ["_law_box_here", "_law_model", "_law_counts", "_law_many", "_law_run_here", "_law_k", "_law_event", "_law_some"]) (sc := defScope s_law_run) (by decide +kernel)) (fun _ _ _ _ _ => pg_name (i := 6) nd rfl (Or.inl rfl)) (fun _ _ _ _ _ => pts_one (pt_cmpR op_isN (pe_c claw_broken hr (by decide) rfl (pa_cons (pv 1) (pa_cons (pe_c claw_with hr (by decide) rfl (pa_cons (pv 2) (pa_cons (pv 6) (pa_cons pe_int pa_nil)))) pa_nil))) pe_non (by rfl))) (fun _ _ _ _ _ => (pv 6)))
      (pss_cons (ps_if (pt_cmpR (op_eqB K hr) (pv 7) (pe_lst pa_nil) (by rfl))
      (pss_one (ps_ret (pe_tup (pa_cons (pv 4) (pa_cons (pv 2) pa_nil))))) pss_nil)
      (pss_cons (ps_set (i := 6) nd rfl (Or.inl rfl) (pe_ix (ixL K) (pv 7) (pe_c claw_take hr (by decide) rfl (pa_cons (pv 0) (pa_cons (pe_callB (lenK K) (by rfl) T.m_len PySem.boot_len (pa_cons (pv 7) pa_nil)) pa_nil))) (fun _ _ => rfl)))
      (pss_cons (ps_expr (pe_bm PySem.F.plainAttrs_list PySem.F.slot_list_append PySem.F.type_list_append mt_append (pv 4) (pa_cons (pv 6) pa_nil)))
      (pss_one (ps_set (i := 2) nd rfl (Or.inr rfl) (pe_c claw_with hr (by decide) rfl (pa_cons (pv 2) (pa_cons (pv 6) (pa_cons pe_int pa_nil)))))))))))
      (pss_one (ps_ret (pe_tup (pa_cons (pv 4) (pa_cons (pv 2) pa_nil))))))), ?_⟩
    have hl8 := ok.evs.hi
    have wl0 : ∀ e : Addr, Walk (Itl K e) d.evs.length (fun H => SqL K H e (d.evs.map V.str)) (YAt (d.evs.map V.str)) := fun e => by
      have wl := walk_list (K := K) (a := e) (xs := d.evs.map V.str)
      rw [List.length_map] at wl
      exact wl
    have hcb : c ≠ b := by
      obtain ⟨x, y, z, hb, _⟩ := hB
      exact ne_of hc hb (fun z => nomatch z)
    refine ⟨sz 0, fun r hr0 => ?_⟩
    have hbr : b ≠ r := hB.ne hr0
    refine ⟨_, rfl, mn, rfl, by omega, by omega, for_range (n := mn) (fun i σ H' => Box H' b (n + i) ∧ Pu.Ext b H H' ∧ ∃ cA ks es v5 v6 v7, H' cA = some (.dK ks) ∧ Going d ks ∧ momB d (cntOf ks) = true ∧ H' r = some (.lst (es.map V.str)) ∧ es.length ≤ i ∧ (∀ e ∈ es, e ∈ d.evs) ∧ walkC d (cntOf kvs) es 0 = .inl (cntOf ks) ∧ ks.map (·.1) = kvs.map (·.1) ∧ cA ≠ b ∧
      σ = [some (.ref b), some (.ref m), some (.ref cA), some (.int mn), some (.ref r), v5, v6, v7]) ⟨(hB.new hr0).mono (by omega), Pu.Ext.new hr0, c, kvs, [], none, none, none, same_upd hr0 _ _ hc, hg, hmo, upd_same, Nat.le_refl _, fun _ h => absurd h List.not_mem_nil, rfl, rfl, hcb, rfl⟩ (fun i σ H1 hi pv => ?_) (fun σ H1 pv => ?_)⟩
    · obtain ⟨B1, e1, cA, ks, es, v5, v6, v7, hcA, g1, m1, hr1, hle, hin, hw, hk, hcAb, rfl⟩ := pv
      rw [Int.zero_add]
      obtain ⟨e, t, c0, ts, h1, h2, h3, h4, h5, n1, n2, _⟩ := id (hm.ext e1)
      refine ⟨_, rfl, m, _, ((0 : Nat) : Int), _, rfl, rfl, .inl (.inl h1), atI_nat rfl, e, rfl, ⟨_, .inl (.inl h2)⟩, fun D hD => lc_fm (v := V.str) (xs := d.evs) (wl0 e) hD (fun H' s => .inl (.inl (s _ _ h2))) (Nat.lt_of_lt_of_le (by omega) (sz 100)) (fun x => momB d (upC (cntOf ks) x 1)) V.str (fun _ => rfl) (fun x hx H' s N M hN hM => ?_) (fun H2 s2 hD2 => ?_)⟩
      · obtain ⟨g7, c7, k7⟩ := going_step g1 hx
        refine ⟨_, rfl, _, rfl, _, rfl, cA, x, 1, ks, rfl, s _ _ hcA, going_len g1 hl8, g1.nd, (cntOf_ok g1.cb hx).1, fun q2 H3 s3 nq2 hq2 => ?_⟩
        refine ⟨b, m, q2, d, _, rfl, (hm.ext e1).same (Same.trans s s3), ok, hq2, g7.cb, ⟨fun a1 a2 H4 s4 => ⟨rfl, _, rfl, ?_⟩, fun j tt hj hb _ p H4 s4 _ => ⟨rfl, _, rfl, ?_⟩, fun _ j ev hj hb _ p H4 s4 _ => ⟨rfl, _, rfl, ?_⟩⟩⟩
        · rw [decide_eq_true rfl]
          refine ⟨_, rfl, hN ?_ _ (Same.trans s3 s4)⟩
          rw [← c7]
          exact momB_iff.mpr ⟨a1, a2⟩
        · rw [decide_eq_false (fun z => nomatch z)]
          refine hM ?_ _ (Same.trans s3 s4)
          rw [← c7]
          cases z : momB d (cntOf (stepK ks x 1)) with
          | false => rfl
          | true => exact absurd hb ((momB_iff.mp z).1 tt (List.mem_of_getElem? hj))
        · rw [decide_eq_false (fun z => nomatch z)]
          refine hM ?_ _ (Same.trans s3 s4)
          rw [← c7]
          cases z : momB d (cntOf (stepK ks x 1)) with
          | false => rfl
          | true => exact absurd hb ((momB_iff.mp z).2 ev (List.mem_of_getElem? hj))
      · have hmem : ∀ x ∈ d.evs.filter (fun x => momB d (upC (cntOf ks) x 1)), x ∈ d.evs ∧ momB d (upC (cntOf ks) x 1) = true := fun x hx => ⟨(List.mem_filter.mp hx).1, (List.mem_filter.mp hx).2⟩
        have hlf : (d.evs.filter (fun x => momB d (upC (cntOf ks) x 1))).length ≤ 8 := Nat.le_trans (List.length_filter_le _ _) hl8
        revert hD2 hmem hlf
        generalize d.evs.filter (fun x => momB d (upC (cntOf ks) x 1)) = sm
        intro hD2 hmem hlf
        have hDb : D ≠ b := (B1.ne hD).symm
        have B2 := B1.same s2
        have e2 := e1.trans (same_ext s2)
        refine ⟨_, rfl, sz 0, fun z nz => ⟨0, decide (sm = []), by decide, ⟨D, z, rfl, rfl, fun zz => ?_, ?_⟩, _, rfl, ite2 (fun ez => ?_) (fun ez => ?_)⟩⟩
        · subst zz
          rw [hD2] at nz
          cases nz
        · have hDz : (upd H2 z (.lst [])) D = some (.lst (sm.map V.str)) := same_upd nz _ _ hD2
          by_cases hs : sm = []
          · subst hs
            exact .inl ⟨_, _, _, .inl (.inl hDz), .inl (.inl upd_same), .nil, decide_eq_true rfl⟩
          · refine .inr (.inl ⟨_, _, .inl (.inl hDz), .inl (.inl upd_same), fun z => hs ?_, decide_eq_false hs⟩)
            rw [List.length_map] at z
            exact List.eq_nil_of_length_eq_zero z
        · refine ⟨_, rfl, _, rfl, sz 2, fun TT nT => ?_⟩
          have sT : Same H2 (upd (upd H2 z (.lst [])) TT (.tup [.ref r, .ref cA])) := Same.trans (same_upd nz) (same_upd nT)
          have BT := (B2.new (o := .lst []) nz)
          exact q TT r cA es ks _ ((B2.same sT).mono (by omega)) (e2.trans (same_ext sT)) upd_same (BT.ne nT).symm hr0 (sT _ _ (s2 _ _ hr1)) hbr.symm (sT _ _ (s2 _ _ hcA)) (by omega) hin hw g1 m1 hk
        · have hs : sm ≠ [] := fun z => ez (decide_eq_true z)
          have hpos : 0 < sm.length := List.length_pos_iff.mpr hs
          have sz2 : Same H2 (upd H2 z (.lst [])) := same_upd nz
          have B3 := B2.same sz2
          have e3 := e2.trans (same_ext sz2)
          have s13 := Same.trans s2 sz2
          have hD3 := sz2 _ _ hD2
          revert sz2 B3 e3 s13 hD3
          generalize upd H2 z (.lst []) = H3
          intro sz2 B3 e3 s13 hD3
          have hzl : (sm.map V.str).length = sm.length := List.length_map ..
          refine ⟨_, rfl, _, rfl, _, rfl, .inl ⟨D, _, rfl, .inl (.inl (.inl hD3)), b, _, _, rfl, by omega, by omega, by omega, B3, fun d1 H4 f1 f2 B4 e4 => ?_⟩⟩
          rw [hzl] at f2
          obtain ⟨x, hx, hxm⟩ := pick_str (es := sm) f1 f2
          obtain ⟨hxe, hxk⟩ := hmem x hxm
          have e14 : Pu.Ext b H1 H4 := (same_ext s13).trans e4
          have hr4 := e14 _ _ hbr.symm hr1
          have hc4 := e14 _ _ hcAb hcA
          refine ⟨D, _, _, .str x, rfl, rfl, .inl (.inl (e4 _ _ hDb hD3)), hx, ?_⟩
          refine ⟨_, rfl, .inl ⟨rfl, _, .inl (.inl hr4)⟩, _, rfl, r, _, _, rfl, rfl, hr4, by rw [List.length_map]; exact Nat.lt_of_lt_of_le (by omega) (sz 2000), ?_⟩
          have nrc : cA ≠ r := ne_of hc4 hr4 (fun z => nomatch z)
          have hc5 : (upd H4 r (.lst (es.map V.str ++ [.str x]))) cA = some (.dK ks) := by
            rw [upd_ne nrc]
            exact hc4
          have hr5 : (upd H4 r (.lst (es.map V.str ++ [.str x]))) r = some (.lst ((es ++ [x]).map V.str)) := by
            rw [upd_same, List.map_append]
            rfl
          have B5 := B4.upd (o := .lst (es.map V.str ++ [.str x])) hbr
          have e5 : Pu.Ext b H (upd H4 r (.lst (es.map V.str ++ [.str x]))) := (e3.trans e4).mut hr0
          revert hc5 hr5 B5 e5
          generalize upd H4 r (.lst (es.map V.str ++ [.str x])) = H5
          intro hc5 hr5 B5 e5
          obtain ⟨g7, c7, k7⟩ := going_step g1 hxe
          refine ⟨_, rfl, _, rfl, cA, x, 1, ks, rfl, hc5, going_len g1 hl8, g1.nd, (cntOf_ok g1.cb hxe).1, fun q6 H6 s6 nq6 hq6 => ⟨(B5.same s6).mono (by omega), e5.trans (same_ext s6), q6, _, es ++ [x], _, _, _, hq6, g7, by rw [c7]; exact hxk, s6 _ _ hr5, by rw [List.length_append]; show _ + 1 ≤ _; omega, fun y hy => ?_, by rw [c7]; exact walkC_snoc hw hxk, k7.trans hk, (B5.ne nq6).symm, rfl⟩⟩
          rcases List.mem_append.mp hy with h | h
          · exact hin y h
          · rw [List.mem_singleton.mp h]
            exact hxe
    · obtain ⟨B1, e1, cA, ks, es, v5, v6, v7, hcA, g1, m1, hr1, hle, hin, hw, hk, hcAb, rfl⟩ := pv
      refine ⟨_, rfl, _, rfl, sz 2, fun TT nT => ?_⟩
      have sT : Same H1 (upd H1 TT (.tup [.ref r, .ref cA])) := same_upd nT
      exact q TT r cA es ks _ (B1.same sT) (e1.trans (same_ext sT)) upd_same (B1.ne nT).symm hr0 (sT _ _ hr1) hbr.symm (sT _ _ hcA) hle hin hw g1 m1 hk
/-! ### counts in another order -/
def unR : V → Addr
  | .ref a => a
  | _ => 0
theorem perm_refs {ys : List V} {ts : List Addr} (h : ys.Perm (ts.map V.ref)) : ∃ ps : List Addr, ys = ps.map V.ref ∧ ps.Perm ts := by
  refine ⟨ys.map unR, ?_, ?_⟩
  · rw [List.map_map]
    have : ∀ y ∈ ys, (V.ref ∘ unR) y = y := by
      intro y hy
      obtain ⟨s, _, rfl⟩ := List.mem_map.mp (h.mem_iff.mp hy)
      rfl
    rw [List.map_congr_left this, List.map_id']
  · have := h.map unR
    rw [List.map_map] at this
    rw [show (unR ∘ V.ref) = id from rfl, List.map_id] at this
    exact this
theorem paired_perm {α β : Type} {F : α → β → Prop} {ps ts : List α} (h : ps.Perm ts) : ∀ {ks : List β}, Paired F ts ks → ∃ ks', Paired F ps ks' ∧ ks'.Perm ks := by
  induction h with
  | nil => exact fun {ks} p => ⟨ks, p, .refl _⟩
  | @cons x l1 l2 _ ih =>
    intro ks p
    cases p with
    | @cons _ y _ ys r t =>
      obtain ⟨ks', h1, h2⟩ := ih t
      exact ⟨y :: ks', .cons r h1, h2.cons y⟩
  | swap x y l =>
    intro ks p
    cases p with
    | @cons _ u _ _ r t =>
      cases t with
      | @cons _ v _ _ r2 t2 => exact ⟨_, .cons r2 (.cons r t2), .swap u v _⟩
  | trans _ _ ih1 ih2 =>
    intro ks p
    obtain ⟨k2, p2, e2⟩ := ih2 p
    obtain ⟨k1, p1, e1⟩ := ih1 p2
    exact ⟨k1, p1, e1.trans e2⟩
def spTurned : Sp := fun vs H Q _ => ∃ (b c : Addr) (n : Int) (kvs : List (Key × V)), vs = [.ref b, .ref c] ∧ H c = some (.dK kvs) ∧ (kvs.map (·.1)).Nodup ∧ kvs.length ≤ 100 ∧ n ≤ 900000 ∧ Box H b n ∧
  ∀ q kvs' H', Box H' b (n + kvs.length) → Pu.Ext b H H' → H q = none → H' q = some (.dK kvs') → kvs'.Perm kvs → Q (.ref q) H'
theorem ok_turned {f : Addr} {fd : FuncData} (F : Fun K "_law_turned" "_law_turned" s_law_turned f fd) (T : Txt mg) (claw_shuffled : Cal P w K mg base 2 "_law_shuffled" (spShuf K) []) : FnOk P w K mg base CX0 3 f fd ["_law_box_here", "_law_counts"] spTurned := by
  have nd := sc_law_turned.nd
  refine F.ok sc_law_turned (fun vs H Q E h => ?_) (fun cdv A outer s H vs Q E hr h => ?_)
  · obtain ⟨_, _, _, _, rfl, _⟩ := h
    rfl
  · obtain ⟨b, c, n, kvs, rfl, hc, hnd, hl, hn, hB, q⟩ := h
    refine ⟨_, (pss_one (ps_ret (pe_callTy (call_dictP rfl) (by rfl) T.m_dict PyProof.Rows.boot_dict (pa_cons (pe_c claw_shuffled hr (by decide) rfl (pa_cons (pv 0) (pa_cons (LiI.pe_listItems rfl (pv 1) (by rfl) T.m_list PyProof.Rows.boot_list) pa_nil))) pa_nil)))), ?_⟩
    refine ⟨_, rfl, _, rfl, c, kvs, rfl, hc, fun H1 p ts s1 np nts _ hp hts => ?_⟩
    have B1 := hB.same s1
    have lts : ts.length = kvs.length := Paired.length hts
    refine ⟨b, p, ts.map V.ref, n, rfl, .inl (.inl (.inl hp)), by rw [List.length_map]; omega, hn, B1, fun l ys H2 B2 e2 nl hl2 hperm => ?_⟩
    rw [List.length_map, lts] at B2
    obtain ⟨ps, rfl, hps⟩ := perm_refs hperm
    obtain ⟨kvs', hk1, hk2⟩ := paired_perm hps hts
    have hk3 : Paired (fun p (kv : Key × V) => SqT K H2 p [kV kv.1, kv.2]) ps kvs' := paired_mono hk1 fun a kv h => by
      obtain ⟨x, y, z, hb, _⟩ := id B1
      exact .inl (.inl (e2 _ _ (ne_of h hb (fun z => nomatch z)) h))
    have hn' : (kvs'.map (·.1)).Nodup := (hk2.map _).nodup_iff.mpr hnd
    refine ⟨l, ps, kvs', rfl, .inl (.inl hl2), hk3, fun z nz => q z kvs' _ (B2.new nz) (((same_ext s1).trans e2).trans (Pu.Ext.new nz)) (((same_ext s1).trans e2).fresh B2 nz) (by rw [upd_same, merge_self' hn']) hk2⟩
/-! ### counts in another order are the same counts -/
theorem valV_of_mem {kvs : List (Key × V)} (hn : (kvs.map (·.1)).Nodup) {p : Key × V} (hp : p ∈ kvs) : valV kvs p.1 = some p.2 := by
  induction kvs with
  | nil => cases hp
  | cons q r ih =>
    rw [List.map_cons, List.nodup_cons] at hn
    unfold valV
    rw [List.find?_cons]
    rcases List.mem_cons.mp hp with e | e
    · subst e
      rw [decide_eq_true rfl]
      rfl
    · have hne : q.1 ≠ p.1 := fun z => hn.1 (z ▸ List.mem_map_of_mem e)
      rw [decide_eq_false hne]
      exact ih hn.2 e
theorem valV_mem2 {kvs : List (Key × V)} {k : Key} {v : V} (h : valV kvs k = some v) : (k, v) ∈ kvs := by
  unfold valV at h
  cases e : kvs.find? fun kv => decide (kv.1 = k) with
  | none => rw [e] at h; cases h
  | some p =>
    rw [e] at h
    cases h
    have h1 : decide (p.1 = k) = true := List.find?_some (p := fun kv : Key × V => decide (kv.1 = k)) e
    have h2 := List.mem_of_find?_eq_some e
    have : p = (k, p.2) := by rw [← of_decide_eq_true h1]
    rw [this] at h2
    exact h2
theorem valV_perm {ks ls : List (Key × V)} (h : ks.Perm ls) (hn : (ls.map (·.1)).Nodup) (k : Key) : valV ks k = valV ls k := by
  have hn2 : (ks.map (·.1)).Nodup := (h.map _).nodup_iff.mpr hn
  cases e : valV ks k with
  | some v => exact (valV_of_mem hn (h.mem_iff.mp (valV_mem2 e))).symm
  | none =>
    cases e2 : valV ls k with
    | none => rfl
    | some v =>
      have := valV_of_mem hn2 (h.mem_iff.mpr (valV_mem2 e2))
      rw [e] at this
      cases this
theorem cnt_perm {ks ls : List (Key × V)} (h : ks.Perm ls) (hn : (ls.map (·.1)).Nodup) : cntOf ks = cntOf ls := by
  funext e
  unfold cntOf
  rw [valV_perm h hn]
theorem going_perm {d : PlanD} {ks ls : List (Key × V)} (h : ks.Perm ls) (g : Going d ls) : Going d ks ∧ cntOf ks = cntOf ls := by
  refine ⟨⟨fun p hp => g.fl p (h.mem_iff.mp hp), ?_, (h.map _).nodup_iff.mpr g.nd⟩, cnt_perm h g.nd⟩
  have := g.cb
  unfold countsB at *
  rw [h.length_eq]
  rw [Bool.and_eq_true] at *
  refine ⟨this.1, ?_⟩
  rw [List.all_eq_true] at *
  intro e he
  unfold itemB
  rw [valV_perm h g.nd]
  exact this.2 e he

end
end Pk

set_option Elab.async false
set_option linter.all false
set_option maxRecDepth 100000
set_option maxHeartbeats 4000000
namespace Pk
open PySem PySem.Spec PyProof.Rows L2 Pu
open PySem.Er (ErrTxt)
abbrev s_law_called : Stmt := topS 74
theorem sc_law_called : FnScope ["_law_way", "_law_one", "_law_two", "_law_three"] ["_law_way", "_law_one", "_law_two", "_law_three"] (defScope s_law_called) := ⟨rfl, rfl, rfl, by decide +kernel, rfl, by decide +kernel, by decide +kernel⟩
abbrev s_law_refused : Stmt := topS 75
theorem sc_law_refused : FnScope ["_law_way", "_law_one", "_law_two", "_law_three", "e"] ["_law_way", "_law_one", "_law_two", "_law_three"] (defScope s_law_refused) := ⟨rfl, rfl, rfl, by decide +kernel, rfl, by decide +kernel, by decide +kernel⟩

section
variable {P : Program} {w : World} {K : PySem.W.Frag} {mg : Str → Option Value} {base : Heap}
/-! ### one of nine functions, told or refused -/
structure Addrs where
  (C CE CF CN CR CB CNB CT : Addr)
def spTwoH (K : PySem.W.Frag) (a : Addrs) (g : Int → Int → Int) : Sp := spTwo K a.C a.CE a.CF fun Q H d ks ls => d.evs.Nodup ∧ ∀ q H', Same H H' → H' q = some (.dK (mapC d.evs fun e => g (cntOf ks e) (cntOf ls e))) → Q (.ref q) H'
def spWay (K : PySem.W.Frag) (a : Addrs) : Nat → Sp
  | 0 => fun vs => spIsCounts K a.C a.CE (vs.take 2)
  | 1 => fun vs => spIsMoment K a.C a.CE a.CF (vs.take 2)
  | 2 => fun vs => spBarred K a.C a.CE a.CF (vs.take 2)
  | 3 => fun vs => spCome K a.C a.CE a.CF a.CN (vs.take 2)
  | 4 => fun vs => spCame K a.C a.CE a.CF a.CN (vs.take 2)
  | 5 => spTwoH K a mx
  | 6 => spTwoH K a mn
  | 7 => spBehind K a.C a.CE a.CF a.CN a.CR a.CB
  | _ => spRunTo K a.C a.CE a.CF a.CN a.CNB a.CT
def spCalled (K : PySem.W.Frag) (a : Addrs) : Sp := fun vs H Q E => ∃ (k : Nat) (x y z : V), vs = [.int k, x, y, z] ∧ k ≤ 8 ∧ ∀ H', Same H H' → spWay K a k [x, y, z] H' Q E
theorem ok_called {a : Addrs} {f f0 f1 f2 f3 f4 f5 f6 : Addr} {fd : FuncData} (F : Fun K "_law_called" "_law_called" s_law_called f fd) (T : Txt mg)
    (m_is_counts : mg "is_counts" = some (.ref f0)) (m_is_moment : mg "is_moment" = some (.ref f1)) (m_barred : mg "barred" = some (.ref f2)) (m_come : mg "come" = some (.ref f3)) (m_came : mg "came" = some (.ref f4)) (m_higher : mg "higher" = some (.ref f5)) (m_lower : mg "lower" = some (.ref f6))
    (c0 : CalF P w K mg base (L2.CX P w) 9 f0 (spIsCounts K a.C a.CE)) (c1 : CalF P w K mg base (L2.CX P w) 9 f1 (spIsMoment K a.C a.CE a.CF)) (c2 : CalF P w K mg base (L2.CX P w) 9 f2 (spBarred K a.C a.CE a.CF)) (c3 : CalF P w K mg base (L2.CX P w) 9 f3 (spCome K a.C a.CE a.CF a.CN)) (c4 : CalF P w K mg base (L2.CX P w) 9 f4 (spCame K a.C a.CE a.CF a.CN))
    (c5 : CalF P w K mg base (L2.CX P w) 9 f5 (spTwoH K a mx)) (c6 : CalF P w K mg base (L2.CX P w) 9 f6 (spTwoH K a mn))
    (cbehind : CalNX P w K mg base 9 "behind" 2 ["begin"] (fun vs zs => vs ++ zs) (spBehind K a.C a.CE a.CF a.CN a.CR a.CB)) (crun_to : CalNX P w K mg base 9 "run_to" 2 ["begin"] (fun vs zs => vs ++ zs) (spRunTo K a.C a.CE a.CF a.CN a.CNB a.CT)) :
    FnOk P w K mg base (L2.CX P w) 10 f fd ["_law_way", "_law_one", "_law_two", "_law_three"] (spCalled K a) := by
  have nd := sc_law_called.nd
  refine F.okX sc_law_called (fun vs H Q E h => ?_) (fun cdv A outer s H vs Q E hr h => ?_)
  · obtain ⟨_, _, _, _, rfl, _⟩ := h
    rfl
  · obtain ⟨k, x, y, z, rfl, hk, h⟩ := h
    let RA : Addr → Sp → Prop := fun g sp => (g = f0 ∧ sp = spIsCounts K a.C a.CE) ∨ (g = f1 ∧ sp = spIsMoment K a.C a.CE a.CF) ∨ (g = f2 ∧ sp = spBarred K a.C a.CE a.CF) ∨ (g = f3 ∧ sp = spCome K a.C a.CE a.CF a.CN) ∨ (g = f4 ∧ sp = spCame K a.C a.CE a.CF a.CN)
    let RB : Addr → Sp → Prop := fun g sp => (g = f5 ∧ sp = spTwoH K a mx) ∨ (g = f6 ∧ sp = spTwoH K a mn)
    have hRA : ∀ g sp, RA g sp → CalF P w K mg base (L2.CX P w) 9 g sp := by
      rintro g sp (⟨rfl, rfl⟩ | ⟨rfl, rfl⟩ | ⟨rfl, rfl⟩ | ⟨rfl, rfl⟩ | ⟨rfl, rfl⟩)
      · exact c0
      · exact c1
      · exact c2
      · exact c3
      · exact c4
    have hRB : ∀ g sp, RB g sp → CalF P w K mg base (L2.CX P w) 9 g sp := by
      rintro g sp (⟨rfl, rfl⟩ | ⟨rfl, rfl⟩)
      · exact c5
      · exact c6
    refine ⟨_, (pss_cons (ps_if (pt_cmpR op_lt (pv 0) pe_int (by rfl))
      (pss_one (ps_ret (pe_callI RA (pe_ix (ixL K) (pe_lst (pa_cons (pe_cls rfl m_is_counts) (pa_cons (pe_cls rfl m_is_moment) (pa_cons (pe_cls rfl m_barred) (pa_cons (pe_cls rfl m_come) (pa_cons (pe_cls rfl m_came) pa_nil)))))) (pv 0) (fun _ _ => rfl)) hRA hr (passes_call (takes_of rfl rfl rfl rfl) (fun _ _ _ _ h => h)) (pa_cons (pv 1) (pa_cons (pv 2) pa_nil))))) pss_nil)
      (pss_cons (ps_if (pt_cmpR op_lt (pv 0) pe_int (by rfl))
      (pss_one (ps_ret (pe_callI RB (pe_ix (ixL K) (pe_lst (pa_cons (pe_cls rfl m_higher) (pa_cons (pe_cls rfl m_lower) pa_nil))) (pe_op op_sub (pv 0) pe_int) (fun _ _ => rfl)) hRB hr (passes_call (takes_of rfl rfl rfl rfl) (fun _ _ _ _ h => h)) (pa_cons (pv 1) (pa_cons (pv 2) (pa_cons (pv 3) pa_nil)))))) pss_nil)
      (pss_cons (ps_if (pt_cmpR op_eq (pv 0) pe_int (by rfl))
      (pss_one (ps_ret (pe_cNX cbehind hr (by decide) rfl (passes_call (takes_of rfl rfl rfl rfl) (fun _ _ _ _ h => h)) (pa_cons (pv 1) (pa_cons (pv 2) pa_nil)) (pk_cons (pv 3) pk_nil)))) pss_nil)
      (pss_one (ps_ret (pe_cNX crun_to hr (by decide) rfl (passes_call (takes_of rfl rfl rfl rfl) (fun _ _ _ _ h => h)) (pa_cons (pv 1) (pa_cons (pv 2) pa_nil)) (pk_cons (pv 3) pk_nil))))))), ?_⟩
    have hk9 : k = 0 ∨ k = 1 ∨ k = 2 ∨ k = 3 ∨ k = 4 ∨ k = 5 ∨ k = 6 ∨ k = 7 ∨ k = 8 := by omega
    rcases hk9 with rfl | rfl | rfl | rfl | rfl | rfl | rfl | rfl | rfl
    · exact ⟨_, rfl, _, _, rfl, rfl, _, rfl, sz 5, fun L hL => ⟨_, rfl, L, _, ((0 : Nat) : Int), .ref f0, rfl, rfl, .inl (.inl upd_same), atI_nat rfl, f0, _, rfl, .inl ⟨rfl, rfl⟩, _, rfl, _, rfl, h _ (same_upd hL)⟩⟩
    · exact ⟨_, rfl, _, _, rfl, rfl, _, rfl, sz 5, fun L hL => ⟨_, rfl, L, _, ((1 : Nat) : Int), .ref f1, rfl, rfl, .inl (.inl upd_same), atI_nat rfl, f1, _, rfl, .inr (.inl ⟨rfl, rfl⟩), _, rfl, _, rfl, h _ (same_upd hL)⟩⟩
    · exact ⟨_, rfl, _, _, rfl, rfl, _, rfl, sz 5, fun L hL => ⟨_, rfl, L, _, ((2 : Nat) : Int), .ref f2, rfl, rfl, .inl (.inl upd_same), atI_nat rfl, f2, _, rfl, .inr (.inr (.inl ⟨rfl, rfl⟩)), _, rfl, _, rfl, h _ (same_upd hL)⟩⟩
    · exact ⟨_, rfl, _, _, rfl, rfl, _, rfl, sz 5, fun L hL => ⟨_, rfl, L, _, ((3 : Nat) : Int), .ref f3, rfl, rfl, .inl (.inl upd_same), atI_nat rfl, f3, _, rfl, .inr (.inr (.inr (.inl ⟨rfl, rfl⟩))), _, rfl, _, rfl, h _ (same_upd hL)⟩⟩
    · exact ⟨_, rfl, _, _, rfl, rfl, _, rfl, sz 5, fun L hL => ⟨_, rfl, L, _, ((4 : Nat) : Int), .ref f4, rfl, rfl, .inl (.inl upd_same), atI_nat rfl, f4, _, rfl, .inr (.inr (.inr (.inr ⟨rfl, rfl⟩))), _, rfl, _, rfl, h _ (same_upd hL)⟩⟩
    · exact ⟨_, rfl, _, _, rfl, rfl, _, rfl, _, rfl, _, _, rfl, rfl, _, rfl, sz 2, fun L hL => ⟨_, rfl, _, _, rfl, rfl, L, _, ((0 : Nat) : Int), .ref f5, rfl, rfl, .inl (.inl upd_same), atI_nat rfl, f5, _, rfl, .inl ⟨rfl, rfl⟩, _, rfl, _, rfl, _, rfl, h _ (same_upd hL)⟩⟩
    · exact ⟨_, rfl, _, _, rfl, rfl, _, rfl, _, rfl, _, _, rfl, rfl, _, rfl, sz 2, fun L hL => ⟨_, rfl, _, _, rfl, rfl, L, _, ((1 : Nat) : Int), .ref f6, rfl, rfl, .inl (.inl upd_same), atI_nat rfl, f6, _, rfl, .inr ⟨rfl, rfl⟩, _, rfl, _, rfl, _, rfl, h _ (same_upd hL)⟩⟩
    · exact ⟨_, rfl, _, _, rfl, rfl, _, rfl, _, rfl, _, _, rfl, rfl, _, rfl, _, rfl, rfl, _, rfl, _, rfl, _, rfl, _, rfl, rfl, rfl, h _ (Same.refl _)⟩
    · exact ⟨_, rfl, _, _, rfl, rfl, _, rfl, _, rfl, _, _, rfl, rfl, _, rfl, _, rfl, rfl, _, rfl, _, rfl, _, rfl, _, rfl, rfl, rfl, h _ (Same.refl _)⟩
/-! ### what it told, or why it refused -/
structure Exm (K : PySem.W.Frag) (a : Addrs) : Prop where
  e11 : PySem.W.exmOne K (.ref a.CE) (.ref a.CE) = some true
  e21 : PySem.W.exmOne K (.ref a.CF) (.ref a.CE) = some false
  e22 : PySem.W.exmOne K (.ref a.CF) (.ref a.CF) = some true
  e31 : PySem.W.exmOne K (.ref a.CR) (.ref a.CE) = some false
  e32 : PySem.W.exmOne K (.ref a.CR) (.ref a.CF) = some false
  e33 : PySem.W.exmOne K (.ref a.CR) (.ref a.CR) = some true
  e41 : PySem.W.exmOne K (.ref a.CN) (.ref a.CE) = some false
  e42 : PySem.W.exmOne K (.ref a.CN) (.ref a.CF) = some false
  e43 : PySem.W.exmOne K (.ref a.CN) (.ref a.CR) = some false
  e44 : PySem.W.exmOne K (.ref a.CN) (.ref a.CN) = some true
  e51 : PySem.W.exmOne K (.ref a.CNB) (.ref a.CE) = some false
  e52 : PySem.W.exmOne K (.ref a.CNB) (.ref a.CF) = some false
  e53 : PySem.W.exmOne K (.ref a.CNB) (.ref a.CR) = some false
  e54 : PySem.W.exmOne K (.ref a.CNB) (.ref a.CN) = some false
  e55 : PySem.W.exmOne K (.ref a.CNB) (.ref a.CNB) = some true
/-- the words for the five errors -/
def Word (a : Addrs) (cls : Value) (w : Str) : Prop := (cls = .ref a.CE ∧ w = "plan") ∨ (cls = .ref a.CF ∧ w = "counts") ∨ (cls = .ref a.CR ∧ w = "run") ∨ (cls = .ref a.CN ∧ w = "moment") ∨ (cls = .ref a.CNB ∧ w = "behind")
def spRefused (K : PySem.W.Frag) (a : Addrs) : Sp := fun vs H Q _ => spCalled K a vs H (fun v H' => ∀ l, H' l = none → Q (.ref l) (upd H' l (.lst [.str "told", v])))
  (fun cls dd H' => ∃ (w : Str) (d : Addr) (v : V), Word a cls w ∧ dd = some d ∧ H' d = some (.xd [("value", v)]) ∧ ∀ l, H' l = none → Q (.ref l) (upd H' l (.lst [.str w, v])))
theorem ok_refused {a : Addrs} {f g1 g2 g3 g4 g5 : Addr} {fd : FuncData} (F : Fun K "_law_refused" "_law_refused" s_law_refused f fd) (T : Txt mg) (X5 : Exm K a) (claw_called : CalX P w K mg base 10 "_law_called" (spUp (spCalled K a)))
    (e_InvalidPlan : ErrTxt K mg "InvalidPlan" "value" a.CE g1) (e_InvalidCounts : ErrTxt K mg "InvalidCounts" "value" a.CF g2) (e_InvalidRun : ErrTxt K mg "InvalidRun" "value" a.CR g3) (e_NotMoment : ErrTxt K mg "NotMoment" "value" a.CN g4) (e_NotBehind : ErrTxt K mg "NotBehind" "value" a.CNB g5) :
    FnOk P w K mg base CX0 11 f fd ["_law_way", "_law_one", "_law_two", "_law_three"] (spRefused K a) := by
  have nd := sc_law_refused.nd
  refine F.ok sc_law_refused (fun vs H Q E h => ?_) (fun cdv A outer s H vs Q E hr h => ?_)
  · obtain ⟨_, _, _, _, rfl, _⟩ := h
    rfl
  · obtain ⟨k, x, y, z, rfl, hk, h⟩ := h
    refine ⟨_, (pss_one (ps_clauses (i := 4) rfl rfl nd rfl rfl takes_none5 (fun W pn xe tk _ => (pss_one (ps_ret (pe_lst (pa_cons pe_str (pa_cons (pe_cX claw_called tk hr (by decide) rfl (pa_cons (pv 0) (pa_cons (pv 1) (pa_cons (pv 2) (pa_cons (pv 3) pa_nil))))) pa_nil))))))
      (.cons ⟨rfl, by decide, .inl e_InvalidPlan.gC⟩ (fun a oe cls d pn hz hf => (pss_one (ps_ret (pe_lst (pa_cons pe_str (pa_cons (pe_byE e_InvalidPlan hz hf (pv 4)) pa_nil))))))
      (.cons ⟨rfl, by decide, .inl e_InvalidCounts.gC⟩ (fun a oe cls d pn hz hf => (pss_one (ps_ret (pe_lst (pa_cons pe_str (pa_cons (pe_byE e_InvalidCounts hz hf (pv 4)) pa_nil))))))
      (.cons ⟨rfl, by decide, .inl e_InvalidRun.gC⟩ (fun a oe cls d pn hz hf => (pss_one (ps_ret (pe_lst (pa_cons pe_str (pa_cons (pe_byE e_InvalidRun hz hf (pv 4)) pa_nil))))))
      (.cons ⟨rfl, by decide, .inl e_NotMoment.gC⟩ (fun a oe cls d pn hz hf => (pss_one (ps_ret (pe_lst (pa_cons pe_str (pa_cons (pe_byE e_NotMoment hz hf (pv 4)) pa_nil))))))
      (.cons ⟨rfl, by decide, .inl e_NotBehind.gC⟩ (fun a oe cls d pn hz hf => (pss_one (ps_ret (pe_lst (pa_cons pe_str (pa_cons (pe_byE e_NotBehind hz hf (pv 4)) pa_nil))))))
      .nil))))))), ?_⟩
    refine ⟨_, rfl, _, rfl, _, rfl, _, rfl, _, _, ⟨k, x, y, z, rfl, hk, h⟩, fun v H1 q1 => ⟨sz 2, q1⟩, ?_⟩
    rintro cls dd H1 ⟨w, d, v, hw, rfl, hd, q1⟩
    rcases hw with ⟨rfl, rfl⟩ | ⟨rfl, rfl⟩ | ⟨rfl, rfl⟩ | ⟨rfl, rfl⟩ | ⟨rfl, rfl⟩
    · exact ⟨true, X5.e11, fun _ a na => ⟨_, rfl, rfl, rfl, d, v, rfl, hd, sz 2, q1⟩, fun z => Bool.noConfusion z⟩
    · exact ⟨false, X5.e21, fun z => Bool.noConfusion z, fun _ => ⟨true, X5.e22, fun _ a na => ⟨_, rfl, rfl, rfl, d, v, rfl, hd, sz 2, q1⟩, fun z => Bool.noConfusion z⟩⟩
    · exact ⟨false, X5.e31, fun z => Bool.noConfusion z, fun _ => ⟨false, X5.e32, fun z => Bool.noConfusion z, fun _ => ⟨true, X5.e33, fun _ a na => ⟨_, rfl, rfl, rfl, d, v, rfl, hd, sz 2, q1⟩, fun z => Bool.noConfusion z⟩⟩⟩
    · exact ⟨false, X5.e41, fun z => Bool.noConfusion z, fun _ => ⟨false, X5.e42, fun z => Bool.noConfusion z, fun _ => ⟨false, X5.e43, fun z => Bool.noConfusion z, fun _ => ⟨true, X5.e44, fun _ a na => ⟨_, rfl, rfl, rfl, d, v, rfl, hd, sz 2, q1⟩, fun z => Bool.noConfusion z⟩⟩⟩⟩
    · exact ⟨false, X5.e51, fun z => Bool.noConfusion z, fun _ => ⟨false, X5.e52, fun z => Bool.noConfusion z, fun _ => ⟨false, X5.e53, fun z => Bool.noConfusion z, fun _ => ⟨false, X5.e54, fun z => Bool.noConfusion z, fun _ => ⟨true, X5.e55, fun _ a na => ⟨_, rfl, rfl, rfl, d, v, rfl, hd, sz 2, q1⟩, fun z => Bool.noConfusion z⟩⟩⟩⟩⟩
end
end Pk

set_option Elab.async false
set_option linter.all false
set_option maxRecDepth 100000
set_option maxHeartbeats 4000000
namespace Pk
open PySem PySem.Spec PyProof.Rows L2 Pu
open PySem.Er (ErrTxt)
section
variable {P : Program} {w : World} {K : PySem.W.Frag} {mg : Str → Option Value} {base : Heap}
/-! ### how much has come behind a walk -/
theorem walk_gap {d : PlanD} (hn : d.evs.Nodup) : ∀ {es : List Str} {c c1 : Str → Int} {i : Nat}, (∀ e ∈ es, e ∈ d.evs) → walkC d c es i = .inl c1 → gapS d.evs c c1 = es.length ∧ ∀ e, c e ≤ c1 e
  | [], c, c1, i, _, h => by
    cases h
    refine ⟨?_, fun _ => Int.le_refl _⟩
    show (d.evs.map fun e => c e - c e).sum = 0
    have : (d.evs.map fun e => c e - c e) = d.evs.map fun _ => 0 := List.map_congr_left fun e _ => Int.sub_self _
    rw [this]
    clear this hn
    induction d.evs with
    | nil => rfl
    | cons x r ih => rw [List.map_cons, List.sum_cons, ih]; rfl
  | x :: r, c, c1, i, hin, h => by
    have h : (if momB d (upC c x 1) = true then walkC d (upC c x 1) r (i + 1) else .inr i) = .inl c1 := h
    by_cases hx : momB d (upC c x 1) = true
    · rw [if_pos hx] at h
      obtain ⟨h1, h2⟩ := walk_gap hn (fun e he => hin e (List.mem_cons_of_mem _ he)) h
      have hm := hin x (List.mem_cons_self ..)
      have h3 : gapS d.evs c c1 = gapS d.evs (upC c x 1) c1 + 1 := by
        rw [gap_up hn hm]
        omega
      refine ⟨by rw [h3, h1, List.length_cons]; rfl, fun e => ?_⟩
      have := h2 e
      unfold upC at this
      by_cases he : e = x
      · rw [if_pos he] at this
        rw [he] at this ⊢
        omega
      · rw [if_neg he] at this
        exact this
    · rw [if_neg hx] at h
      cases h
/-! ### the same count of each event -/
theorem valV_mapC {es : List Str} (hn : es.Nodup) {g : Str → Int} {e : Str} (he : e ∈ es) : valV (mapC es g) (.inr e) = some (.int (g e)) := by
  have h : ((.inr e : Key), V.int (g e)) ∈ mapC es g := List.mem_map.mpr ⟨e, he, rfl⟩
  exact valV_of_mem (mapC_keys hn g) h
theorem cnt_mapC {es : List Str} (hn : es.Nodup) {g : Str → Int} {e : Str} (he : e ∈ es) : cntOf (mapC es g) e = g e := by
  unfold cntOf
  rw [valV_mapC hn he]
theorem cnt_zero {es : List Str} (hn : es.Nodup) : cntOf (mapC es fun _ => 0) = fun _ => 0 := by
  funext e
  by_cases he : e ∈ es
  · exact cnt_mapC hn he
  · unfold cntOf
    rw [valV_none]
    intro p hp
    obtain ⟨x, hx, rfl⟩ := List.mem_map.mp hp
    exact fun z => he (Sum.inr.inj z ▸ hx)
theorem going_mapC {d : PlanD} (ho : EvsOk d.evs) {g : Str → Int} (hg : ∀ e ∈ d.evs, 0 ≤ g e) : Going d (mapC d.evs g) := by
  refine ⟨fun p hp => ?_, ?_, mapC_keys ho.nd g⟩
  · obtain ⟨x, hx, rfl⟩ := List.mem_map.mp hp
    rfl
  · unfold countsB
    rw [Bool.and_eq_true, List.all_eq_true]
    refine ⟨decide_eq_true (by unfold mapC; rw [List.length_map]), fun e he => ?_⟩
    unfold itemB
    rw [valV_mapC ho.nd he]
    exact decide_eq_true (hg e he)
theorem zero_mom {d : PlanD} (ok : PlanOk d) : momB d (fun _ => 0) = true := by
  refine momB_iff.mpr ⟨fun t ht hb => ?_, fun e he hb => ?_⟩
  · have := (ok.tin t ht).2.2
    unfold tieBad at hb
    dsimp only at hb
    omega
  · obtain ⟨q, hq, h1, h2⟩ := hb
    dsimp only at h2
    have := (ok.cin q hq).2
    omega

/-! ### things of other kinds -/
def kinds6 : List String := ["NoneType", "int", "bool", "str", "list", "tuple"]
structure KitP (K : PySem.W.Frag) (C : Addr) : Prop where
  no : ∀ t ∈ kinds6, PySem.W.kitOne K (.type t) (.ref C) = some false
/-- None, a number, a truth value, a text, a list or a tuple, apart from the box -/
def OddV (b : Addr) (H : Hp) (v : V) : Prop := v = .non ∨ (∃ i, v = .int i) ∨ (∃ k, v = .bl k) ∨ (∃ z, v = .str z) ∨ (∃ a xs, v = .ref a ∧ a ≠ b ∧ H a = some (.lst xs)) ∨ ∃ a xs, v = .ref a ∧ a ≠ b ∧ H a = some (.tup xs)
theorem OddV.ext {b : Addr} {H H' : Hp} {v : V} (h : OddV b H v) (e : Pu.Ext b H H') : OddV b H' v := by
  rcases h with h | h | h | h | ⟨a, xs, h1, h2, h3⟩ | ⟨a, xs, h1, h2, h3⟩
  · exact .inl h
  · exact .inr (.inl h)
  · exact .inr (.inr (.inl h))
  · exact .inr (.inr (.inr (.inl h)))
  · exact .inr (.inr (.inr (.inr (.inl ⟨a, xs, h1, h2, e _ _ h2 h3⟩))))
  · exact .inr (.inr (.inr (.inr (.inr ⟨a, xs, h1, h2, e _ _ h2 h3⟩))))
theorem OddV.ty {b : Addr} {H : Hp} {v : V} (h : OddV b H v) : ∃ t ∈ kinds6, TyX K H v (.type t) := by
  rcases h with rfl | ⟨i, rfl⟩ | ⟨i, rfl⟩ | ⟨i, rfl⟩ | ⟨a, xs, rfl, _, h3⟩ | ⟨a, xs, rfl, _, h3⟩
  · exact ⟨"NoneType", by decide, .base .non⟩
  · exact ⟨"int", by decide, .base (.int i)⟩
  · exact ⟨"bool", by decide, .base (.bl i)⟩
  · exact ⟨"str", by decide, .base (.str i)⟩
  · exact ⟨"list", by decide, .base (.lst h3)⟩
  · exact ⟨"tuple", by decide, .base (.tup h3)⟩
theorem OddV.noPlan {b C : Addr} {H : Hp} {v : V} (h : OddV b H v) (KP : KitP K C) : NoPlan K C H v := by
  obtain ⟨t, ht, hT⟩ := h.ty (K := K)
  exact ⟨_, hT, KP.no t ht⟩
theorem OddV.noCounts {b : Addr} {d : PlanD} {H : Hp} {v : V} (h : OddV b H v) : NoCounts K d H v := by
  obtain ⟨t, ht, hT⟩ := h.ty (K := K)
  have h2 : t ∈ kinds ∧ isk t "dict" = false := (show ∀ t ∈ kinds6, t ∈ kinds ∧ isk t "dict" = false by decide) t ht
  exact .inl ⟨_, hT, kity false h2.1 (by decide) h2.2⟩
theorem OddV.any {b : Addr} {H : Hp} {v : V} (h : OddV b H v) : AnyV v := by
  rcases h with rfl | ⟨i, rfl⟩ | ⟨i, rfl⟩ | ⟨i, rfl⟩ | ⟨a, xs, rfl, _, h3⟩ | ⟨a, xs, rfl, _, h3⟩ <;> trivial
/-- .. or a dict of counts below 0 -/
def BadV (b : Addr) (d : PlanD) (H : Hp) (v : V) : Prop := OddV b H v ∨ ∃ c, v = .ref c ∧ c ≠ b ∧ H c = some (.dK (mapC d.evs fun _ => -1))
theorem BadV.ext {b : Addr} {d : PlanD} {H H' : Hp} {v : V} (h : BadV b d H v) (e : Pu.Ext b H H') : BadV b d H' v := by
  rcases h with h | ⟨c, h1, h2, h3⟩
  · exact .inl (h.ext e)
  · exact .inr ⟨c, h1, h2, e _ _ h2 h3⟩
theorem neg_counts {d : PlanD} (ho : EvsOk d.evs) : countsB d.evs (mapC d.evs fun _ => -1) = false := by
  cases h : countsB d.evs (mapC d.evs fun _ => -1) with
  | false => rfl
  | true =>
    have h1 := ho.lo
    have he : d.evs[0] ∈ d.evs := List.getElem_mem (by omega)
    have h2 := (cntOf_ok h he).2
    rw [cnt_mapC ho.nd he] at h2
    omega
theorem BadV.noCounts {b : Addr} {d : PlanD} {H : Hp} {v : V} (h : BadV b d H v) (ho : EvsOk d.evs) : NoCounts K d H v := by
  rcases h with h | ⟨c, rfl, _, h3⟩
  · exact h.noCounts
  · refine .inr ⟨c, _, rfl, h3, fun p hp => ?_, neg_counts ho⟩
    obtain ⟨x, hx, rfl⟩ := List.mem_map.mp hp
    rfl
theorem BadV.any {b : Addr} {d : PlanD} {H : Hp} {v : V} (h : BadV b d H v) : AnyV v := by
  rcases h with h | ⟨c, rfl, _, h3⟩
  · exact h.any
  · trivial
/-! ### the refusals -/
/-- a new list of a word and a thing -/
def Said (Q : VK) (H : Hp) (u : Str) (v : V) : Prop := ∀ l H', Same H H' → H l = none → H' l = some (.lst [.str u, v]) → Q (.ref l) H'
theorem fresh_of {H H' : Hp} {l : Addr} (s : Same H H') (h : H' l = none) : H l = none := by
  cases hh : H l with
  | none => rfl
  | some o => rw [s _ _ hh] at h; cases h
theorem out_said {a : Addrs} {H H1 : Hp} {cls : Addr} {u : Str} {v : V} {Q : VK} (hw : Word a (.ref cls) u) (s1 : Same H H1) (q : Said Q H u v) : Out cls "value" v (fun c dd H' => ∃ (w : Str) (d : Addr) (v : V), Word a c w ∧ dd = some d ∧ H' d = some (.xd [("value", v)]) ∧ ∀ l, H' l = none → Q (.ref l) (upd H' l (.lst [.str w, v]))) H1 := by
  intro dd hdd
  refine ⟨u, dd, v, hw, rfl, upd_same, fun l hl => q l _ (Same.trans s1 (Same.trans (same_upd hdd) (same_upd hl))) (fresh_of (Same.trans s1 (same_upd hdd)) hl) upd_same⟩
theorem ref_plan {a : Addrs} {k : Nat} {v y z : V} {H : Hp} {Q : VK} {E : XK} (hk : k ≤ 8) (hn : ∀ H', Same H H' → NoPlan K a.C H' v) (q : Said Q H "plan" v) : spRefused K a [.int k, v, y, z] H Q E := by
  refine ⟨k, v, y, z, rfl, hk, fun H1 s1 => ?_⟩
  have o := out_said (a := a) (cls := a.CE) (.inl ⟨rfl, rfl⟩) s1 q
  have n := hn H1 s1
  have hk9 : k = 0 ∨ k = 1 ∨ k = 2 ∨ k = 3 ∨ k = 4 ∨ k = 5 ∨ k = 6 ∨ k = 7 ∨ k = 8 := by omega
  rcases hk9 with rfl | rfl | rfl | rfl | rfl | rfl | rfl | rfl | rfl
  · exact ⟨_, _, rfl, .inl ⟨n, o⟩⟩
  · exact ⟨_, _, rfl, .inl ⟨n, o⟩⟩
  · exact ⟨_, _, rfl, .inl ⟨n, o⟩⟩
  · exact ⟨_, _, rfl, .inl ⟨n, o⟩⟩
  · exact ⟨_, _, rfl, .inl ⟨n, o⟩⟩
  · exact ⟨_, _, _, rfl, .inl ⟨n, o⟩⟩
  · exact ⟨_, _, _, rfl, .inl ⟨n, o⟩⟩
  · exact ⟨_, _, _, rfl, .inl ⟨n, o⟩⟩
  · exact ⟨_, _, _, rfl, .inl ⟨n, o⟩⟩
theorem ref_counts {a : Addrs} {k : Nat} {p : Addr} {d : PlanD} {y z : V} {H : Hp} {Q : VK} {E : XK} (hk : k = 1 ∨ k = 2 ∨ k = 3 ∨ k = 4 ∨ k = 5 ∨ k = 6 ∨ k = 8) (hp : PlanAt K a.C H p d) (hl : d.evs.length ≤ 8) (hn : NoCounts K d H y) (q : Said Q H "counts" y) : spRefused K a [.int k, .ref p, y, z] H Q E := by
  refine ⟨k, .ref p, y, z, rfl, by omega, fun H1 s1 => ?_⟩
  have o : ∀ H2, Same H1 H2 → Out a.CF "value" y _ H2 := fun H2 s2 => out_said (a := a) (cls := a.CF) (.inr (.inl ⟨rfl, rfl⟩)) (Same.trans s1 s2) q
  have n := hn.same s1
  have hp1 := hp.same s1
  rcases hk with rfl | rfl | rfl | rfl | rfl | rfl | rfl
  · exact ⟨_, _, rfl, .inr ⟨p, d, rfl, hp1, hl, .inl ⟨n, o⟩⟩⟩
  · exact ⟨_, _, rfl, .inr ⟨p, d, rfl, hp1, hl, .inl ⟨n, o⟩⟩⟩
  · exact ⟨_, _, rfl, .inr ⟨p, d, rfl, hp1, hl, .inl ⟨n, o⟩⟩⟩
  · exact ⟨_, _, rfl, .inr ⟨p, d, rfl, hp1, hl, .inl ⟨n, o⟩⟩⟩
  · exact ⟨_, _, _, rfl, .inr ⟨p, d, rfl, hp1, hl, .inl ⟨n, o⟩⟩⟩
  · exact ⟨_, _, _, rfl, .inr ⟨p, d, rfl, hp1, hl, .inl ⟨n, o⟩⟩⟩
  · exact ⟨_, _, _, rfl, .inr ⟨p, d, rfl, hp1, hl, .inl ⟨n, o⟩⟩⟩
theorem going_counts {d : PlanD} {H : Hp} {c : Addr} {ks : List (Key × V)} (h : H c = some (.dK ks)) (g : Going d ks) : Counts d H (.ref c) ks := ⟨c, rfl, h, g.fl, g.cb⟩
theorem ref_counts2 {a : Addrs} {k : Nat} {p c : Addr} {d : PlanD} {ks : List (Key × V)} {z : V} {H : Hp} {Q : VK} {E : XK} (hk : k = 5 ∨ k = 6 ∨ k = 8) (hp : PlanAt K a.C H p d) (ok : PlanOk d) (hc : H c = some (.dK ks)) (g : Going d ks) (hm : momB d (cntOf ks) = true) (hn : NoCounts K d H z) (hz : z ≠ .non) (q : Said Q H "counts" z) :
    spRefused K a [.int k, .ref p, .ref c, z] H Q E := by
  refine ⟨k, .ref p, .ref c, z, rfl, by omega, fun H1 s1 => ?_⟩
  have o : ∀ H2, Same H1 H2 → Out a.CF "value" z _ H2 := fun H2 s2 => out_said (a := a) (cls := a.CF) (.inr (.inl ⟨rfl, rfl⟩)) (Same.trans s1 s2) q
  have n := hn.same s1
  have hp1 := hp.same s1
  have hl := ok.evs.hi
  have cc := going_counts (s1 _ _ hc) g
  rcases hk with rfl | rfl | rfl
  · exact ⟨_, _, _, rfl, .inr ⟨p, d, rfl, hp1, hl, .inr ⟨ks, cc, .inl ⟨n, o⟩⟩⟩⟩
  · exact ⟨_, _, _, rfl, .inr ⟨p, d, rfl, hp1, hl, .inr ⟨ks, cc, .inl ⟨n, o⟩⟩⟩⟩
  · exact ⟨_, _, _, rfl, .inr ⟨p, d, rfl, hp1, hl, .inr ⟨ks, cc, ok, fun x => absurd x (by rw [hm]; decide), fun _ => .inl ⟨hz, n, o⟩⟩⟩⟩
/-- an empty run -/
theorem ref_behind0 {a : Addrs} {p r : Addr} {d : PlanD} {z : V} {H : Hp} {Q : VK} {E : XK} (hp : PlanAt K a.C H p d) (ok : PlanOk d) (hr : H r = some (.lst []))
    (h : (z ≠ .non ∧ NoCounts K d H z ∧ Said Q H "counts" z) ∨ (∃ c ks, z = .ref c ∧ H c = some (.dK ks) ∧ Going d ks ∧ momB d (cntOf ks) = false ∧ Said Q H "moment" z) ∨
      ∃ c ks, z = .ref c ∧ H c = some (.dK ks) ∧ Going d ks ∧ momB d (cntOf ks) = true ∧ ∀ x, Said Q H "told" x) : spRefused K a [.int ((7 : Nat) : Int), .ref p, .ref r, z] H Q E := by
  refine ⟨7, .ref p, .ref r, z, rfl, by omega, fun H1 s1 => ?_⟩
  refine ⟨_, _, _, rfl, .inr ⟨p, d, rfl, hp.same s1, ok, .inr (.inr ⟨r, [], rfl, .inl (.inl (.inl (s1 _ _ hr))), Nat.zero_le _, fun _ h => absurd h List.not_mem_nil, ?_⟩)⟩⟩
  rcases h with ⟨hz, hn, q⟩ | ⟨c, ks, rfl, hc, g, hm, q⟩ | ⟨c, ks, rfl, hc, g, hm, q⟩
  · exact .inl ⟨hz, hn.same s1, fun H2 s2 => out_said (a := a) (cls := a.CF) (.inr (.inl ⟨rfl, rfl⟩)) (Same.trans s1 s2) q⟩
  · exact .inr (.inl ⟨ks, going_counts (s1 _ _ hc) g, hm, fun H2 s2 => out_said (a := a) (cls := a.CN) (.inr (.inr (.inr (.inl ⟨rfl, rfl⟩)))) (Same.trans s1 s2) q⟩)
  · refine .inr (.inr ⟨ks, .inr ⟨going_counts (s1 _ _ hc) g, hm⟩, g, fun i hi => ?_, fun c1 hc1 q2 H' ks2 s2 _ _ _ _ _ l hl => q _ l _ (Same.trans s1 (Same.trans s2 (same_upd hl))) (fresh_of (Same.trans s1 s2) hl) upd_same⟩)
    cases hi
theorem ref_moment {a : Addrs} {k : Nat} {p c : Addr} {d : PlanD} {ks : List (Key × V)} {z : V} {H : Hp} {Q : VK} {E : XK} (hk : k = 3 ∨ k = 4 ∨ k = 8) (hp : PlanAt K a.C H p d) (ok : PlanOk d) (hc : H c = some (.dK ks)) (g : Going d ks) (hm : momB d (cntOf ks) = false) (q : Said Q H "moment" (.ref c)) :
    spRefused K a [.int k, .ref p, .ref c, z] H Q E := by
  refine ⟨k, .ref p, .ref c, z, rfl, by omega, fun H1 s1 => ?_⟩
  have o : ∀ H2, Same H1 H2 → Out a.CN "value" (.ref c) _ H2 := fun H2 s2 => out_said (a := a) (cls := a.CN) (.inr (.inr (.inr (.inl ⟨rfl, rfl⟩)))) (Same.trans s1 s2) q
  have hp1 := hp.same s1
  have hl := ok.evs.hi
  have cc := going_counts (s1 _ _ hc) g
  have no : ∀ {R : Prop}, momB d (cntOf ks) = true → R := fun x => absurd x (by rw [hm]; decide)
  rcases hk with rfl | rfl | rfl
  · exact ⟨_, _, rfl, .inr ⟨p, d, rfl, hp1, hl, .inr ⟨ks, cc, ok, g.nd, fun _ => o, fun x => no x⟩⟩⟩
  · exact ⟨_, _, rfl, .inr ⟨p, d, rfl, hp1, hl, .inr ⟨ks, cc, ok, g.nd, fun _ => o, fun x => no x⟩⟩⟩
  · exact ⟨_, _, _, rfl, .inr ⟨p, d, rfl, hp1, hl, .inr ⟨ks, cc, ok, fun _ => o, fun x => no x⟩⟩⟩
/-- a run to a moment: from counts that are none, or behind it, or from where nothing has come -/
theorem ref_run_to {a : Addrs} {p c : Addr} {d : PlanD} {ks : List (Key × V)} {z : V} {H : Hp} {Q : VK} {E : XK} (hp : PlanAt K a.C H p d) (ok : PlanOk d) (hc : H c = some (.dK ks)) (g : Going d ks) (hm : momB d (cntOf ks) = true)
    (h : (∃ c2 ls, z = .ref c2 ∧ H c2 = some (.dK ls) ∧ Going d ls ∧ momB d (cntOf ls) = false ∧ Said Q H "moment" z) ∨ (∃ c2 ls, z = .ref c2 ∧ H c2 = some (.dK ls) ∧ Going d ls ∧ momB d (cntOf ls) = true ∧ (∃ e ∈ d.evs, cntOf ks e < cntOf ls e) ∧ Said Q H "behind" z) ∨
      (z = .non ∧ gapS d.evs (fun _ => 0) (cntOf ks) ≤ 200 ∧ ∀ x, Said Q H "told" x)) : spRefused K a [.int ((8 : Nat) : Int), .ref p, .ref c, z] H Q E := by
  refine ⟨8, .ref p, .ref c, z, rfl, by omega, fun H1 s1 => ?_⟩
  have hp1 := hp.same s1
  have hl := ok.evs.hi
  have cc := going_counts (s1 _ _ hc) g
  have no : ∀ {R : Prop}, momB d (cntOf ks) = false → R := fun x => absurd x (by rw [hm]; decide)
  refine ⟨_, _, _, rfl, .inr ⟨p, d, rfl, hp1, hl, .inr ⟨ks, cc, ok, fun x => no x, fun _ => ?_⟩⟩⟩
  rcases h with ⟨c2, ls, rfl, h2, g2, m2, q⟩ | ⟨c2, ls, rfl, h2, g2, m2, ⟨e, he, hlt⟩, q⟩ | ⟨rfl, hgap, q⟩
  · exact .inr (.inl ⟨ls, going_counts (s1 _ _ h2) g2, m2, fun H2 s2 => out_said (a := a) (cls := a.CN) (.inr (.inr (.inr (.inl ⟨rfl, rfl⟩)))) (Same.trans s1 s2) q⟩)
  · refine .inr (.inr ⟨ls, .inr ⟨going_counts (s1 _ _ h2) g2, m2⟩, g2, m2, fun _ H2 s2 => out_said (a := a) (cls := a.CNB) (.inr (.inr (.inr (.inr ⟨rfl, rfl⟩)))) (Same.trans s1 s2) q, fun hle => absurd (hle e he) (by omega)⟩)
  · have hz := cnt_zero ok.evs.nd
    refine .inr (.inr ⟨_, .inl ⟨rfl, rfl⟩, going_mapC ok.evs fun _ _ => Int.le_refl _, by rw [hz]; exact zero_mom ok, fun ⟨e, he, hlt⟩ => ?_, fun _ => ⟨fun hgt => ?_, fun _ q2 es c1 H' s2 _ _ _ _ _ _ l hl => q _ l _ (Same.trans s1 (Same.trans s2 (same_upd hl))) (fresh_of (Same.trans s1 s2) hl) upd_same⟩⟩)
    · rw [hz] at hlt
      have := (cntOf_ok g.cb he).2
      dsimp only at hlt
      omega
    · rw [hz] at hgt
      omega
/-- what each of the seven functions tells of a moment and of where nothing has come -/
def ToldV (d : PlanD) (c z : Str → Int) : Nat → V → Hp → Prop
  | 0 => fun v _ => v = .bl true
  | 1 => fun v _ => v = .bl true
  | 2 => fun v _ => v = .non
  | 3 => fun v H => ∃ q, v = .ref q ∧ H q = some (.lst ((d.evs.filter fun e => momB d (upC c e 1)).map V.str))
  | 4 => fun v H => ∃ q, v = .ref q ∧ H q = some (.lst (((d.evs.filter fun e => decide (0 < c e)).filter fun e => momB d (upC c e (-1))).map V.str))
  | 5 => fun v H => ∃ q, v = .ref q ∧ H q = some (.dK (mapC d.evs fun e => mx (c e) (z e)))
  | _ => fun v H => ∃ q, v = .ref q ∧ H q = some (.dK (mapC d.evs fun e => mn (c e) (z e)))
theorem toldV_same {d : PlanD} {c z : Str → Int} {k : Nat} {v : V} {H H' : Hp} (h : ToldV d c z k v H) (s : Same H H') : ToldV d c z k v H' := by
  match k, h with
  | 0, h => exact h
  | 1, h => exact h
  | 2, h => exact h
  | 3, ⟨q, e, h⟩ => exact ⟨q, e, s _ _ h⟩
  | 4, ⟨q, e, h⟩ => exact ⟨q, e, s _ _ h⟩
  | 5, ⟨q, e, h⟩ => exact ⟨q, e, s _ _ h⟩
  | _ + 6, ⟨q, e, h⟩ => exact ⟨q, e, s _ _ h⟩
theorem ref_told {a : Addrs} {k : Nat} {p c z : Addr} {d : PlanD} {ks ls : List (Key × V)} {H : Hp} {Q : VK} {E : XK} (hk : k ≤ 6) (hp : PlanAt K a.C H p d) (ok : PlanOk d) (hc : H c = some (.dK ks)) (g : Going d ks) (hm : momB d (cntOf ks) = true) (hz : H z = some (.dK ls)) (gz : Going d ls)
    (q : ∀ v l H', Same H H' → H l = none → H' l = some (.lst [.str "told", v]) → ToldV d (cntOf ks) (cntOf ls) k v H' → Q (.ref l) H') : spRefused K a [.int k, .ref p, .ref c, .ref z] H Q E := by
  refine ⟨k, .ref p, .ref c, .ref z, rfl, by omega, fun H1 s1 => ?_⟩
  have hp1 := hp.same s1
  have hl := ok.evs.hi
  have cc := going_counts (s1 _ _ hc) g
  have cz := going_counts (s1 _ _ hz) gz
  have no : ∀ {R : Prop}, momB d (cntOf ks) = false → R := fun x => absurd x (by rw [hm]; decide)
  have tell : ∀ (v : V) (H2 : Hp), Same H1 H2 → ToldV d (cntOf ks) (cntOf ls) k v H2 → ∀ l, H2 l = none → Q (.ref l) (upd H2 l (.lst [.str "told", v])) := fun v H2 s2 t l hl =>
    q v l _ (Same.trans s1 (Same.trans s2 (same_upd hl))) (fresh_of (Same.trans s1 s2) hl) upd_same (toldV_same t (same_upd hl))
  have hk9 : k = 0 ∨ k = 1 ∨ k = 2 ∨ k = 3 ∨ k = 4 ∨ k = 5 ∨ k = 6 := by omega
  rcases hk9 with rfl | rfl | rfl | rfl | rfl | rfl | rfl
  · obtain ⟨c', e, h1, h2, h3⟩ := id cc
    cases e
    refine ⟨_, _, rfl, .inr ⟨p, d, rfl, hp1, hl, .inr ⟨c, ks, rfl, h1, h2, fun H2 s2 => ?_⟩⟩⟩
    rw [h3]
    exact tell _ _ s2 rfl
  · refine ⟨_, _, rfl, .inr ⟨p, d, rfl, hp1, hl, .inr ⟨ks, cc, ok, fun H2 s2 => ?_⟩⟩⟩
    rw [hm]
    exact tell _ _ s2 rfl
  · obtain ⟨n1, n2⟩ := momB_iff.mp hm
    exact ⟨_, _, rfl, .inr ⟨p, d, rfl, hp1, hl, .inr ⟨ks, cc, ok, ⟨fun _ _ H2 s2 => tell _ _ s2 rfl, fun i t hi hb => absurd hb (n1 t (List.mem_of_getElem? hi)), fun _ j e hj hb => absurd hb (n2 e (List.mem_of_getElem? hj))⟩⟩⟩⟩
  · exact ⟨_, _, rfl, .inr ⟨p, d, rfl, hp1, hl, .inr ⟨ks, cc, ok, g.nd, fun x => no x, fun _ r H2 s2 h2 => tell _ _ s2 ⟨r, rfl, h2⟩⟩⟩⟩
  · exact ⟨_, _, rfl, .inr ⟨p, d, rfl, hp1, hl, .inr ⟨ks, cc, ok, g.nd, fun x => no x, fun _ r H2 s2 h2 => tell _ _ s2 ⟨r, rfl, h2⟩⟩⟩⟩
  · exact ⟨_, _, _, rfl, .inr ⟨p, d, rfl, hp1, hl, .inr ⟨ks, cc, .inr ⟨ls, cz, ok.evs.nd, fun r H2 s2 h2 => tell _ _ s2 ⟨r, rfl, h2⟩⟩⟩⟩⟩
  · exact ⟨_, _, _, rfl, .inr ⟨p, d, rfl, hp1, hl, .inr ⟨ks, cc, .inr ⟨ls, cz, ok.evs.nd, fun r H2 s2 h2 => tell _ _ s2 ⟨r, rfl, h2⟩⟩⟩⟩⟩
theorem ref_five {a : Addrs} {p c z : Addr} {d : PlanD} {ks ls : List (Key × V)} {H : Hp} {Q : VK} {E : XK} (hp : PlanAt K a.C H p d) (ok : PlanOk d) (hc : H c = some (.dK ks)) (g : Going d ks) (hz : H z = some (.dK ls)) (gz : Going d ls) (q : ∀ x, Said Q H "told" x) : spRefused K a [.int ((5 : Nat) : Int), .ref p, .ref c, .ref z] H Q E := by
  refine ⟨5, .ref p, .ref c, .ref z, rfl, by omega, fun H1 s1 => ?_⟩
  exact ⟨_, _, _, rfl, .inr ⟨p, d, rfl, hp.same s1, ok.evs.hi, .inr ⟨ks, going_counts (s1 _ _ hc) g, .inr ⟨ls, going_counts (s1 _ _ hz) gz, ok.evs.nd, fun r H2 s2 h2 l hl => q _ l _ (Same.trans s1 (Same.trans s2 (same_upd hl))) (fresh_of (Same.trans s1 s2) hl) upd_same⟩⟩⟩⟩
/-! ### what the law's last part stands on -/
structure Had (K : PySem.W.Frag) (a : Addrs) (H : Hp) (p cA zA oA : Addr) (d : PlanD) (ks : List (Key × V)) : Prop where
  hp : PlanAt K a.C H p d
  ok : PlanOk d
  hc : H cA = some (.dK ks)
  g : Going d ks
  hm : momB d (cntOf ks) = true
  hz : H zA = some (.dK (mapC d.evs fun _ => 0))
  ho : H oA = some (.dK (mapC d.evs fun _ => 100000000000000000000000000000))
  ne : cA ≠ zA
  hk : (ks.map (·.1)).Perm (d.evs.map .inr)
theorem Had.same {a : Addrs} {H H' : Hp} {p cA zA oA : Addr} {d : PlanD} {ks : List (Key × V)} (h : Had K a H p cA zA oA d ks) (s : Same H H') : Had K a H' p cA zA oA d ks :=
  ⟨h.hp.same s, h.ok, s _ _ h.hc, h.g, h.hm, s _ _ h.hz, s _ _ h.ho, h.ne, h.hk⟩
theorem Had.gz {a : Addrs} {H : Hp} {p cA zA oA : Addr} {d : PlanD} {ks : List (Key × V)} (h : Had K a H p cA zA oA d ks) : Going d (mapC d.evs fun _ => 0) ∧ cntOf (mapC d.evs fun _ => 0) = (fun _ => 0) ∧ momB d (cntOf (mapC d.evs fun _ => 0)) = true := by
  have hz := cnt_zero h.ok.evs.nd
  exact ⟨going_mapC h.ok.evs fun _ _ => Int.le_refl _, hz, by rw [hz]; exact zero_mom h.ok⟩
theorem Had.go {a : Addrs} {H : Hp} {p cA zA oA : Addr} {d : PlanD} {ks : List (Key × V)} (h : Had K a H p cA zA oA d ks) : Going d (mapC d.evs fun _ => 100000000000000000000000000000) := going_mapC h.ok.evs fun _ _ => by decide
/-- the seven answers, one behind the other -/
def Good (d : PlanD) (c z : Str → Int) (H : Hp) (xs : List V) : Prop := ∀ i x, xs[i]? = some x → i < 7 → ∃ l v, x = .ref l ∧ H l = some (.lst [.str "told", v]) ∧ ToldV d c z i v H
theorem Good.same {d : PlanD} {c z : Str → Int} {H H' : Hp} {xs : List V} (h : Good d c z H xs) (s : Same H H') : Good d c z H' xs := fun i x hx hi => by
  obtain ⟨l, v, e, h1, h2⟩ := h i x hx hi
  exact ⟨l, v, e, s _ _ h1, toldV_same h2 s⟩
/-- two such answers are equal -/
theorem told_eq {d : PlanD} {c z : Str → Int} {k : Nat} {v v' : V} {H : Hp} (hk : k < 7) (hn : d.evs.Nodup) (h : ToldV d c z k v H) (h' : ToldV d c z k v' H) : EqB K H 3 v v' true := by
  have lists : ∀ {q q' : Addr} {xs : List Str}, H q = some (.lst (xs.map V.str)) → H q' = some (.lst (xs.map V.str)) → EqB K H 3 (.ref q) (.ref q') true := fun {q q' xs} h1 h2 =>
    eqb_obj ⟨q, q', rfl, rfl, fun _ => rfl, .inl ⟨_, _, _, .inl (.inl h1), .inl (.inl h2), ansd_all rfl fun i x y hx hy => by
      rw [hx] at hy
      cases hy
      obtain ⟨s, _, rfl⟩ := strs_get hx
      exact eqb_refl rfl, (all_true _).symm⟩⟩
  have dicts : ∀ {q q' : Addr} {g : Str → Int}, H q = some (.dK (mapC d.evs g)) → H q' = some (.dK (mapC d.evs g)) → EqB K H 3 (.ref q) (.ref q') true := fun {q q' g} h1 h2 =>
    eqb_obj ⟨q, q', rfl, rfl, fun _ => rfl, .inr (.inr (.inr (.inl ⟨_, _, true, h1, h2, rfl, keyd_all fun p hp => by
      obtain ⟨x, hx, rfl⟩ := List.mem_map.mp hp
      exact ⟨_, valV_mapC hn hx, eqb_refl rfl⟩, rfl⟩)))⟩
  have hk7 : k = 0 ∨ k = 1 ∨ k = 2 ∨ k = 3 ∨ k = 4 ∨ k = 5 ∨ k = 6 := by omega
  rcases hk7 with rfl | rfl | rfl | rfl | rfl | rfl | rfl
  · have e1 : v = .bl true := h
    have e2 : v' = .bl true := h'
    subst e1 e2
    exact eqb_refl rfl
  · have e1 : v = .bl true := h
    have e2 : v' = .bl true := h'
    subst e1 e2
    exact eqb_refl rfl
  · have e1 : v = .non := h
    have e2 : v' = .non := h'
    subst e1 e2
    exact eqb_refl rfl
  · obtain ⟨q, rfl, h1⟩ := h
    obtain ⟨q', rfl, h2⟩ := h'
    exact lists h1 h2
  · obtain ⟨q, rfl, h1⟩ := h
    obtain ⟨q', rfl, h2⟩ := h'
    exact lists h1 h2
  · obtain ⟨q, rfl, h1⟩ := h
    obtain ⟨q', rfl, h2⟩ := h'
    exact dicts h1 h2
  · obtain ⟨q, rfl, h1⟩ := h
    obtain ⟨q', rfl, h2⟩ := h'
    exact dicts h1 h2
/-- a list of a word and a thing against another one -/
theorem pair_eq {H : Hp} {l l' : Addr} {u : Str} {v : V} (h : H l = some (.lst [.str u, v])) (h' : H l' = some (.lst [.str u, v])) (hv : AnyV v) {n : Nat} : RcB K H (EqB K H (n + 1)) (.ref l) (.ref l') true :=
  ⟨l, l', rfl, rfl, fun _ => rfl, .inl ⟨_, _, [true, true], .inl (.inl h), .inl (.inl h'), .cons (eqb_refl rfl) (.cons (eqb_refl hv) .nil), rfl⟩⟩
/-! ### the seven answers in a list of their own -/
def SevenR (d : PlanD) (c z : Str → Int) (D : Addr) (y : V) (k : Nat) (H : Hp) : Prop := ∃ l v, y = .ref l ∧ l ≠ D ∧ H l = some (.lst [.str "told", v]) ∧ ToldV d c z k v H ∧ ∀ q, v = .ref q → q ≠ D
theorem seven_same {d : PlanD} {c z : Str → Int} {D : Addr} (y : V) (k : Nat) (H H' : Hp) (h : SevenR d c z D y k H) (s : Same H H') : SevenR d c z D y k H' := by
  obtain ⟨l, v, e, n, h1, h2, h3⟩ := h
  exact ⟨l, v, e, n, s _ _ h1, toldV_same h2 s, h3⟩
theorem seven_put {d : PlanD} {c z : Str → Int} {D : Addr} (y : V) (k : Nat) (H : Hp) (o : List V) (h : SevenR d c z D y k H) : SevenR d c z D y k (upd H D (.lst o)) := by
  obtain ⟨l, v, e, n, h1, h2, h3⟩ := h
  refine ⟨l, v, e, n, by rw [upd_ne n]; exact h1, ?_, h3⟩
  match k, h2 with
  | 0, h => exact h
  | 1, h => exact h
  | 2, h => exact h
  | 3, ⟨q, e, h⟩ => exact ⟨q, e, by rw [upd_ne (h3 q e)]; exact h⟩
  | 4, ⟨q, e, h⟩ => exact ⟨q, e, by rw [upd_ne (h3 q e)]; exact h⟩
  | 5, ⟨q, e, h⟩ => exact ⟨q, e, by rw [upd_ne (h3 q e)]; exact h⟩
  | _ + 6, ⟨q, e, h⟩ => exact ⟨q, e, by rw [upd_ne (h3 q e)]; exact h⟩
theorem seven_of {d : PlanD} {c z : Str → Int} {D l : Addr} {k : Nat} {v : V} {H H' : Hp} {ys : List V} (hD : H D = some (.lst ys)) (hy : ys.length = k) (hR : ∀ j y, ys[j]? = some y → SevenR d c z D y j H) (s : Same H H') (nl : H l = none) (hl : H' l = some (.lst [.str "told", v])) (t : ToldV d c z k v H') : SevenR d c z D (.ref l) k H' := by
  have hD' := s _ _ hD
  refine ⟨l, v, rfl, (ne_of_none hD nl).symm, hl, t, fun q e => ?_⟩
  have lists : ∀ {xs : List Str}, 0 < k → H' q = some (.lst (xs.map V.str)) → q ≠ D := fun {xs} hk hq z => by
    rw [z, hD'] at hq
    have e1 : ys = xs.map V.str := by injection hq with a; injection a
    obtain ⟨y0, h0⟩ : ∃ y0, ys[0]? = some y0 := ⟨_, List.getElem?_eq_getElem (by omega)⟩
    obtain ⟨l0, v0, e0, _⟩ := hR 0 _ h0
    rw [e1] at h0
    obtain ⟨s0, _, e2⟩ := strs_get h0
    rw [e0] at e2
    cases e2
  have dicts : ∀ {g : Str → Int}, H' q = some (.dK (mapC d.evs g)) → q ≠ D := fun {g} hq => ne_of hq hD' (fun z => nomatch z)
  match k, t with
  | 0, t => have t : v = .bl true := t; rw [t] at e; cases e
  | 1, t => have t : v = .bl true := t; rw [t] at e; cases e
  | 2, t => have t : v = .non := t; rw [t] at e; cases e
  | 3, ⟨q', e', h⟩ => rw [e'] at e; cases e; exact lists (by omega) h
  | 4, ⟨q', e', h⟩ => rw [e'] at e; cases e; exact lists (by omega) h
  | 5, ⟨q', e', h⟩ => rw [e'] at e; cases e; exact dicts h
  | _ + 6, ⟨q', e', h⟩ => rw [e'] at e; cases e; exact dicts h
end
end Pk

set_option Elab.async false
set_option linter.all false
set_option maxRecDepth 100000
set_option maxHeartbeats 4000000
namespace Pk
open PySem PySem.Spec PyProof.Rows L2 Pu
open PySem.Er (ErrTxt)
abbrev s_law_rest_right : Stmt := topS 77
theorem sc_law_rest_right : FnScope ["_law_box_here", "_law_model", "_law_plan_here", "_law_had", "_law_odds", "_law_counts", "_law_zero_here", "_law_over", "_law_bad", "_law_second", "_law_good", "_law_worse", "_law_rows", "_law_way", "_law_two", "_law_three", "_law_due", "_law_again"] ["_law_box_here", "_law_model", "_law_plan_here", "_law_had", "_law_odds"] (defScope s_law_rest_right) := ⟨rfl, rfl, rfl, by decide +kernel, rfl, by decide +kernel, by decide +kernel⟩

section
variable {P : Program} {w : World} {K : PySem.W.Frag} {mg : Str → Option Value} {base : Heap}
def spRest (K : PySem.W.Frag) (a : Addrs) : Sp := fun vs H Q _ => ∃ (b m p L1 L2 cA zA oA G : Addr) (d : PlanD) (ks : List (Key × V)) (bad second : V) (gs : List V), vs = [.ref b, .ref m, .ref p, .ref L1, .ref L2] ∧ H L1 = some (.lst [.ref cA, .ref zA, .ref oA]) ∧ H L2 = some (.lst [bad, second, .ref G]) ∧
  Had K a H p cA zA oA d ks ∧ BadV b d H bad ∧ OddV b H second ∧ second ≠ .non ∧ H G = some (.lst gs) ∧ gs.length = 9 ∧ Good d (cntOf ks) (fun _ => 0) H gs ∧ ∀ H', Same H H' → Q (.bl true) H'
abbrev RS (b m p L1 L2 cA zA oA G : Addr) (bad second : V) (v11 v12 v13 v14 v15 v16 v17 : Option V) : _root_.L2.St := [some (.ref b), some (.ref m), some (.ref p), some (.ref L1), some (.ref L2), some (.ref cA), some (.ref zA), some (.ref oA), some bad, some second, some (.ref G), v11, v12, v13, v14, v15, v16, v17]
def RowOk (bad : V) (H : Hp) (t : Addr) : Prop := ∃ (k : Nat) (z : V), (k = 1 ∨ k = 2 ∨ k = 3 ∨ k = 4 ∨ k = 5 ∨ k = 6 ∨ k = 8) ∧ H t = some (.tup [.int k, bad, z, .str "counts"])
theorem RowOk.same {bad : V} {H H' : Hp} {t : Addr} (h : RowOk bad H t) (s : Same H H') : RowOk bad H' t := by
  obtain ⟨k, z, hk, h⟩ := h
  exact ⟨k, z, hk, s _ _ h⟩
def Row2Ok (cA : Addr) (second : V) (H : Hp) (t : Addr) : Prop := (∃ k : Nat, (k = 5 ∨ k = 6 ∨ k = 8) ∧ H t = some (.tup [.int k, .ref cA, second])) ∨ ∃ r, H t = some (.tup [.int ((7 : Nat) : Int), .ref r, second]) ∧ H r = some (.lst [])
theorem Row2Ok.same {cA : Addr} {second : V} {H H' : Hp} {t : Addr} (h : Row2Ok cA second H t) (s : Same H H') : Row2Ok cA second H' t := by
  rcases h with ⟨k, hk, h⟩ | ⟨r, h1, h2⟩
  · exact .inl ⟨k, hk, s _ _ h⟩
  · exact .inr ⟨r, s _ _ h1, s _ _ h2⟩
theorem ok_rest {a : Addrs} {f : Addr} {fd : FuncData} (F : Fun K "_law_rest_right" "_law_rest_right" s_law_rest_right f fd) (T : Txt mg) (KP : KitP K a.C) (claw_refused : Cal P w K mg base 11 "_law_refused" (spRefused K a) []) (cis_moment : CalX P w K mg base 6 "is_moment" (spIsMoment K a.C a.CE a.CF)) (cis_counts : CalX P w K mg base 3 "is_counts" (spIsCounts K a.C a.CE)) :
    FnOk P w K mg base CX0 12 f fd ["_law_box_here", "_law_model", "_law_plan_here", "_law_had", "_law_odds"] (spRest K a) := by
  have nd := sc_law_rest_right.nd
  refine F.ok sc_law_rest_right (fun vs H Q E h => ?_) (fun cdv A outer s H vs Q E hr h => ?_)
  · obtain ⟨_, _, _, _, _, _, _, _, _, _, _, _, _, _, rfl, _⟩ := h
    rfl
  · obtain ⟨b, m, p, L1, L2, cA, zA, oA, G, d, ks, bad, second, gs, rfl, hL1, hL2, hd, hbad, hsec, hsn, hG, hgl, hgood, q⟩ := h
    refine ⟨_, (pss_cons (ps_asg (pv 3) (pg_unl rfl (pgs_cons (pg_name (i := 5) nd rfl (Or.inr rfl)) (pgs_cons (pg_name (i := 6) nd rfl (Or.inr rfl)) (pgs_cons (pg_name (i := 7) nd rfl (Or.inl rfl)) pgs_nil)))))
      (pss_cons (ps_asg (pv 4) (pg_unl rfl (pgs_cons (pg_name (i := 8) nd rfl (Or.inl rfl)) (pgs_cons (pg_name (i := 9) nd rfl (Or.inl rfl)) (pgs_cons (pg_name (i := 10) nd rfl (Or.inl rfl)) pgs_nil)))))
      (pss_cut (ps_set (i := 11) nd rfl (Or.inl rfl) (pe_ix (ixL K) (pe_lst (pa_cons (pv 7) (pa_cons pe_non pa_nil))) (pe_callTy call_int1 (by rfl) T.m_int PyProof.Rows.boot_int (pa_cons (pe_cX0 cis_moment hr (by decide) rfl (pa_cons (pv 2) (pa_cons (pv 7) pa_nil))) pa_nil)) (fun _ _ => rfl)))
      (pss_cut (ps_set (i := 12) nd rfl (Or.inl rfl) (pe_lst (pa_cons (pe_tup (pa_cons pe_int (pa_cons (pv 8) (pa_cons pe_non (pa_cons pe_str pa_nil))))) (pa_cons (pe_tup (pa_cons pe_int (pa_cons (pv 8) (pa_cons pe_non (pa_cons pe_str pa_nil))))) (pa_cons (pe_tup (pa_cons pe_int (pa_cons (pv 8) (pa_cons pe_non (pa_cons pe_str pa_nil))))) (pa_cons (pe_tup (pa_cons pe_int (pa_cons (pv 8) (pa_cons pe_non (pa_cons pe_str pa_nil))))) pa_nil))))))
      (pss_cut (ps_set (i := 12) nd rfl (Or.inl rfl) (pe_op oAdd (pv 12) (pe_lst (pa_cons (pe_tup (pa_cons pe_int (pa_cons (pv 8) (pa_cons (pv 9) (pa_cons pe_str pa_nil))))) (pa_cons (pe_tup (pa_cons pe_int (pa_cons (pv 8) (pa_cons (pv 9) (pa_cons pe_str pa_nil))))) (pa_cons (pe_tup (pa_cons pe_int (pa_cons (pv 8) (pa_cons (pv 9) (pa_cons pe_str pa_nil))))) pa_nil))))))
      (pss_cut (ps_for PassesOwn.never rfl (pi_list (pv 12)) (pg_tup rfl (pgs_cons (pg_name (i := 13) nd rfl (Or.inl rfl)) (pgs_cons (pg_name (i := 14) nd rfl (Or.inl rfl)) (pgs_cons (pg_name (i := 15) nd rfl (Or.inl rfl)) (pgs_cons (pg_name (i := 16) nd rfl (Or.inl rfl)) pgs_nil)))))
      (pss_one (ps_if (pt_cmpR (op_neB K hr) (pe_c claw_refused hr (by decide) rfl (pa_cons (pv 13) (pa_cons (pv 2) (pa_cons (pv 14) (pa_cons (pv 15) pa_nil))))) (pe_lst (pa_cons (pv 16) (pa_cons (pv 14) pa_nil))) (by rfl))
      (pss_one (ps_ret pe_bl)) pss_nil)))
      (pss_cut (ps_for PassesOwn.never rfl (pi_list (pe_lst (pa_cons (pe_tup (pa_cons pe_int (pa_cons (pv 5) (pa_cons (pv 9) pa_nil)))) (pa_cons (pe_tup (pa_cons pe_int (pa_cons (pv 5) (pa_cons (pv 9) pa_nil)))) (pa_cons (pe_tup (pa_cons pe_int (pa_cons (pe_lst pa_nil) (pa_cons (pv 9) pa_nil)))) (pa_cons (pe_tup (pa_cons pe_int (pa_cons (pv 5) (pa_cons (pv 9) pa_nil)))) pa_nil)))))) (pg_tup rfl (pgs_cons (pg_name (i := 13) nd rfl (Or.inl rfl)) (pgs_cons (pg_name (i := 14) nd rfl (Or.inl rfl)) (pgs_cons (pg_name (i := 15) nd rfl (Or.inl rfl)) pgs_nil))))
      (pss_one (ps_if (pt_cmpR (op_neB K hr) (pe_c claw_refused hr (by decide) rfl (pa_cons (pv 13) (pa_cons (pv 2) (pa_cons (pv 14) (pa_cons (pv 15) pa_nil))))) (pe_lst (pa_cons pe_str (pa_cons (pv 15) pa_nil))) (by rfl))
      (pss_one (ps_ret pe_bl)) pss_nil)))
      (pss_cut (ps_if (pt_cmpR op_notN (pv 11) pe_non (by rfl))
      (pss_cons (ps_set (i := 12) nd rfl (Or.inl rfl) (pe_lst (pa_cons (pe_c claw_refused hr (by decide) rfl (pa_cons pe_int (pa_cons (pv 2) (pa_cons (pv 7) (pa_cons pe_non pa_nil))))) (pa_cons (pe_c claw_refused hr (by decide) rfl (pa_cons pe_int (pa_cons (pv 2) (pa_cons (pv 7) (pa_cons pe_non pa_nil))))) (pa_cons (pe_c claw_refused hr (by decide) rfl (pa_cons pe_int (pa_cons (pv 2) (pa_cons (pe_lst pa_nil) (pa_cons (pv 7) pa_nil))))) pa_nil)))))
      (pss_cons (ps_set (i := 12) nd rfl (Or.inl rfl) (pe_op oAdd (pv 12) (pe_lst (pa_cons (pe_c claw_refused hr (by decide) rfl (pa_cons pe_int (pa_cons (pv 2) (pa_cons (pv 7) (pa_cons (pv 9) pa_nil))))) (pa_cons (pe_c claw_refused hr (by decide) rfl (pa_cons pe_int (pa_cons (pv 2) (pa_cons (pv 5) (pa_cons (pv 7) pa_nil))))) pa_nil)))))
      (pss_one (ps_if (PW.pt (pw_or (pt_cmpR (op_neB K hr) (pv 12) (pe_op op_rep (pe_lst (pa_cons (pe_lst (pa_cons pe_str (pa_cons (pv 7) pa_nil))) pa_nil)) pe_int) (by rfl)) (pw_or1 (pt_cmpR op_ne (pe_ix (ixL K) (pe_c claw_refused hr (by decide) rfl (pa_cons pe_int (pa_cons (pv 2) (pa_cons (pv 7) (pa_cons (pv 5) pa_nil))))) pe_int (fun _ _ => rfl)) pe_str (by rfl)))))
      (pss_one (ps_ret pe_bl)) pss_nil)))) pss_nil)
      (pss_cut (ps_if (PW.pt (pw_and (pt_cmpR (op_neB K hr) (pv 5) (pv 6) (by rfl)) (pw_and1 (pt_cmpR (op_neB K hr) (pe_c claw_refused hr (by decide) rfl (pa_cons pe_int (pa_cons (pv 2) (pa_cons (pv 6) (pa_cons (pv 5) pa_nil))))) (pe_lst (pa_cons pe_str (pa_cons (pv 5) pa_nil))) (by rfl)))))
      (pss_one (ps_ret pe_bl)) pss_nil)
      (pss_cut (ps_setLc (i := 17) (y := "_law_again") (own := [("_law_way", 13)]) (g := gName 13) (tt := tYes) rfl nd rfl rfl (sw_true rfl rfl rfl (by decide +kernel)) (pi_range1 rfl T.m_range (pa_cons pe_int pa_nil)) (blkOk_by (N := ["_law_box_here", "_law_model", "_law_plan_here", "_law_had", "_law_odds", "_law_counts", "_law_zero_here", "_law_over", "_law_bad", "_law_second", "_law_good", "_law_worse", "_law_rows", "_law_way", "_law_two", "_law_three", "_law_due", "_law_again"]) (sc := defScope s_law_rest_right) (by decide +kernel)) (fun _ _ _ _ _ => pg_name (i := 13) nd rfl (Or.inl rfl)) (fun _ _ _ _ _ => pts_nil) (fun _ _ _ _ _ => (pe_c claw_refused hr (by decide) rfl (pa_cons (pv 13) (pa_cons (pv 2) (pa_cons (pv 5) (pa_cons (pv 6) pa_nil)))))))
      (pss_one (ps_ret (pe_and (pe_cmpR (op_eqB K hr) (pv 17) (pe_slice (slL K) (pv 10) po_none (po_some pe_int)) (by rfl)) (pe_one (pe_cmpR op_isBl (pe_cX0 cis_counts hr (by decide) rfl (pa_cons (pv 2) (pa_cons (pv 8) pa_nil))) pe_bl (by rfl)))))))))))))))), ?_⟩
    refine ⟨_, rfl, L1, _, rfl, .inl (.inl hL1), rfl, _, _, rfl, _, _, rfl, _, _, rfl, rfl, ?_⟩
    refine ⟨_, rfl, L2, _, rfl, .inl (.inl hL2), rfl, _, _, rfl, _, _, rfl, _, _, rfl, rfl, ?_⟩
    have hs0 : ∀ {H' : Hp}, Same H H' → OddV b H' second := fun s => hsec.ext (same_ext s)
    have hb0 : ∀ {H' : Hp}, Same H H' → BadV b d H' bad := fun s => hbad.ext (same_ext s)
    have hl8 := hd.ok.evs.hi
    obtain ⟨gz, ez, mz⟩ := hd.gz
    have go := hd.go
    -- is over a moment?
    refine ⟨fun σ H' => Same H H' ∧ σ = RS b m p L1 L2 cA zA oA G bad second (some (if momB d (cntOf (mapC d.evs fun _ => 100000000000000000000000000000)) = true then .non else .ref oA)) none none none none none none, ?_, ?_⟩
    · refine ⟨_, rfl, sz 2, fun Lw hLw => ?_⟩
      have sL : Same H (upd H Lw (.lst [.ref oA, .non])) := same_upd hLw
      have hLw1 : (upd H Lw (.lst [.ref oA, .non])) Lw = some (.lst [.ref oA, .non]) := upd_same
      revert sL hLw1
      generalize upd H Lw (.lst [.ref oA, .non]) = H1
      intro sL hLw1
      have hd1 := hd.same sL
      refine ⟨_, rfl, _, rfl, .ref p, .ref oA, rfl, .inr ⟨p, d, rfl, hd1.hp, hl8, .inr ⟨_, going_counts hd1.ho go, hd1.ok, fun H2 s2 => .inr ⟨_, rfl, ?_⟩⟩⟩⟩
      have hLw2 := s2 _ _ hLw1
      have s02 := Same.trans sL s2
      cases hov : momB d (cntOf (mapC d.evs fun _ => 100000000000000000000000000000)) with
      | true => exact ⟨Lw, _, ((1 : Nat) : Int), _, rfl, rfl, .inl (.inl hLw2), atI_nat rfl, s02, rfl⟩
      | false => exact ⟨Lw, _, ((0 : Nat) : Int), _, rfl, rfl, .inl (.inl hLw2), atI_nat rfl, s02, rfl⟩
    rintro σ H1 ⟨s1, rfl⟩
    -- four rows
    refine ⟨fun σ H' => Same H H' ∧ ∃ (v11 : Option V) (R : Addr) (ts : List Addr), v11 = some (if momB d (cntOf (mapC d.evs fun _ => 100000000000000000000000000000)) = true then V.non else .ref oA) ∧ σ = RS b m p L1 L2 cA zA oA G bad second v11 (some (.ref R)) none none none none none ∧ H' R = some (.lst (ts.map V.ref)) ∧ ts.length ≤ 10 ∧ ∀ t ∈ ts, RowOk bad H' t, ?_, ?_⟩
    · refine ⟨_, rfl, sz 4, fun t1 n1 => ⟨_, rfl, sz 4, fun t2 n2 => ⟨_, rfl, sz 4, fun t3 n3 => ⟨_, rfl, sz 4, fun t4 n4 => ⟨sz 4, fun R nR => ?_⟩⟩⟩⟩⟩
      have q1 := same_upd (o := .tup [.int ((1 : Nat) : Int), bad, .non, .str "counts"]) n1
      have q2 := same_upd (o := .tup [.int ((2 : Nat) : Int), bad, .non, .str "counts"]) n2
      have q3 := same_upd (o := .tup [.int ((3 : Nat) : Int), bad, .non, .str "counts"]) n3
      have q4 := same_upd (o := .tup [.int ((4 : Nat) : Int), bad, .non, .str "counts"]) n4
      have q5 := same_upd (o := .lst [.ref t1, .ref t2, .ref t3, .ref t4]) nR
      refine ⟨Same.trans s1 (Same.trans q1 (Same.trans q2 (Same.trans q3 (Same.trans q4 q5)))), _, R, [t1, t2, t3, t4], rfl, rfl, upd_same, (show 4 ≤ 10 by decide), fun t ht => ?_⟩
      simp only [List.mem_cons, List.not_mem_nil, or_false] at ht
      rcases ht with rfl | rfl | rfl | rfl
      · exact ⟨1, .non, by omega, q5 _ _ (q4 _ _ (q3 _ _ (q2 _ _ upd_same)))⟩
      · exact ⟨2, .non, by omega, q5 _ _ (q4 _ _ (q3 _ _ upd_same))⟩
      · exact ⟨3, .non, by omega, q5 _ _ (q4 _ _ upd_same)⟩
      · exact ⟨4, .non, by omega, q5 _ _ upd_same⟩
    rintro σ H2 ⟨s2, v11, R, ts, hv11, rfl, hR, hts, hrow⟩
    -- three more
    refine ⟨fun σ H' => Same H H' ∧ ∃ (R : Addr) (ts : List Addr), σ = RS b m p L1 L2 cA zA oA G bad second v11 (some (.ref R)) none none none none none ∧ H' R = some (.lst (ts.map V.ref)) ∧ ∀ t ∈ ts, RowOk bad H' t, ?_, ?_⟩
    · refine ⟨_, rfl, _, rfl, _, rfl, sz 4, fun t1 n1 => ⟨_, rfl, _, rfl, sz 4, fun t2 n2 => ⟨_, rfl, _, rfl, sz 4, fun t3 n3 => ⟨sz 3, fun R2 nR => .inr (.inr ⟨R, R2, ts.map V.ref, _, rfl, rfl, ?_, upd_same, ?_, fun R3 nR3 => ?_⟩)⟩⟩⟩⟩
      · exact same_upd nR _ _ (same_upd n3 _ _ (same_upd n2 _ _ (same_upd n1 _ _ hR)))
      · rw [List.length_map]
        exact sz _ (by show ts.length + 3 ≤ 100000; omega)
      have q1 := same_upd (o := .tup [.int ((5 : Nat) : Int), bad, second, .str "counts"]) n1
      have q2 := same_upd (o := .tup [.int ((6 : Nat) : Int), bad, second, .str "counts"]) n2
      have q3 := same_upd (o := .tup [.int ((8 : Nat) : Int), bad, second, .str "counts"]) n3
      have q4 := same_upd (o := .lst [.ref t1, .ref t2, .ref t3]) nR
      have q5 := same_upd (o := .lst (ts.map V.ref ++ [.ref t1, .ref t2, .ref t3])) nR3
      have q15 := Same.trans q1 (Same.trans q2 (Same.trans q3 (Same.trans q4 q5)))
      refine ⟨Same.trans s2 q15, R3, ts ++ [t1, t2, t3], rfl, by rw [upd_same, List.map_append]; rfl, fun t ht => ?_⟩
      rcases List.mem_append.mp ht with h | h
      · exact (hrow t h).same q15
      simp only [List.mem_cons, List.not_mem_nil, or_false] at h
      rcases h with rfl | rfl | rfl
      · exact ⟨5, second, by omega, q5 _ _ (q4 _ _ (q3 _ _ (q2 _ _ upd_same)))⟩
      · exact ⟨6, second, by omega, q5 _ _ (q4 _ _ (q3 _ _ upd_same))⟩
      · exact ⟨8, second, by omega, q5 _ _ (q4 _ _ upd_same)⟩
    clear hR hrow hts s2 s1 ts R H2 H1
    rintro σ H3 ⟨s3, R, ts, rfl, hR, hrow⟩
    -- each row is refused for its counts
    refine ⟨fun σ H' => Same H H' ∧ ∃ v12 v13 v14 v15 v16 : Option V, σ = RS b m p L1 L2 cA zA oA G bad second v11 v12 v13 v14 v15 v16 none, ?_, ?_⟩
    · refine ⟨_, rfl, R, rfl, ⟨_, .inl (.inl hR)⟩, for_it (walk_list (K := K) (a := R) (xs := ts.map V.ref)) (fun i σ H' => Same H3 H' ∧ ∃ v13 v14 v15 v16 : Option V, σ = RS b m p L1 L2 cA zA oA G bad second v11 (some (.ref R)) v13 v14 v15 v16 none) ⟨Same.refl _, none, none, none, none, rfl⟩ (fun i σ H' _ pv => .inl (.inl (pv.1 _ _ hR))) (fun i x σ H4 H5 hi pv yv => ?_) (fun σ H4 pv => ?_)⟩
      · obtain ⟨s4, v13, v14, v15, v16, rfl⟩ := pv
        obtain ⟨rfl, hx⟩ := yv
        obtain ⟨t, ht, rfl⟩ := List.mem_map.mp (List.mem_of_getElem? hx)
        obtain ⟨k, z, hk, htt⟩ := (hrow t ht).same s4
        have s04 := Same.trans s3 s4
        have hd4 := hd.same s04
        refine ⟨t, _, rfl, .inl (.inl htt), rfl, _, _, rfl, _, _, rfl, _, _, rfl, _, _, rfl, rfl, ?_⟩
        exact ⟨_, rfl, _, rfl, _, rfl, _, rfl, nil_of (ref_counts hk hd4.hp hl8 ((hb0 s04).noCounts hd.ok.evs) fun l H6 s6 nl hl => ⟨_, rfl, _, rfl, sz 2, fun l2 nl2 => ⟨1, true, by decide, pair_eq (same_upd nl2 _ _ hl) upd_same hbad.any, _, rfl, Same.trans s4 (Same.trans s6 (same_upd nl2)), _, _, _, _, rfl⟩⟩)⟩
      · obtain ⟨s4, v13, v14, v15, v16, rfl⟩ := pv
        exact ⟨Same.trans s3 s4, _, _, _, _, _, rfl⟩
    clear hR hrow s3 ts R H3
    rintro σ H3 ⟨s3, v12, v13, v14, v15, v16, rfl⟩
    -- the second counts
    refine ⟨fun σ H' => Same H H' ∧ ∃ v12 v13 v14 v15 v16 : Option V, σ = RS b m p L1 L2 cA zA oA G bad second v11 v12 v13 v14 v15 v16 none, ?_, ?_⟩
    · refine ⟨_, rfl, _, rfl, sz 3, fun t1 n1 => ⟨_, rfl, _, rfl, sz 3, fun t2 n2 => ⟨sz 0, fun r0 nr0 => ⟨_, rfl, sz 3, fun t3 n3 => ⟨_, rfl, _, rfl, sz 3, fun t4 n4 => ⟨sz 4, fun R nR => ⟨R, rfl, ⟨_, .inl (.inl upd_same)⟩, ?_⟩⟩⟩⟩⟩⟩⟩
      have q1 := same_upd (o := .tup [.int ((5 : Nat) : Int), .ref cA, second]) n1
      have q2 := same_upd (o := .tup [.int ((6 : Nat) : Int), .ref cA, second]) n2
      have q3 := same_upd (o := .lst []) nr0
      have q4 := same_upd (o := .tup [.int ((7 : Nat) : Int), .ref r0, second]) n3
      have q5 := same_upd (o := .tup [.int ((8 : Nat) : Int), .ref cA, second]) n4
      have q6 := same_upd (o := .lst [.ref t1, .ref t2, .ref t3, .ref t4]) nR
      have q16 := Same.trans q1 (Same.trans q2 (Same.trans q3 (Same.trans q4 (Same.trans q5 q6))))
      have hrow : ∀ t ∈ [t1, t2, t3, t4], Row2Ok cA second (upd (upd (upd (upd (upd (upd H3 t1 (.tup [.int ((5 : Nat) : Int), .ref cA, second])) t2 (.tup [.int ((6 : Nat) : Int), .ref cA, second])) r0 (.lst [])) t3 (.tup [.int ((7 : Nat) : Int), .ref r0, second])) t4 (.tup [.int ((8 : Nat) : Int), .ref cA, second])) R (.lst [.ref t1, .ref t2, .ref t3, .ref t4])) t := by
        intro t ht
        simp only [List.mem_cons, List.not_mem_nil, or_false] at ht
        rcases ht with rfl | rfl | rfl | rfl
        · exact .inl ⟨5, by omega, q6 _ _ (q5 _ _ (q4 _ _ (q3 _ _ (q2 _ _ upd_same))))⟩
        · exact .inl ⟨6, by omega, q6 _ _ (q5 _ _ (q4 _ _ (q3 _ _ upd_same)))⟩
        · exact .inr ⟨r0, q6 _ _ (q5 _ _ upd_same), q6 _ _ (q5 _ _ (q4 _ _ upd_same))⟩
        · exact .inl ⟨8, by omega, q6 _ _ upd_same⟩
      have hR : (upd (upd (upd (upd (upd (upd H3 t1 (.tup [.int ((5 : Nat) : Int), .ref cA, second])) t2 (.tup [.int ((6 : Nat) : Int), .ref cA, second])) r0 (.lst [])) t3 (.tup [.int ((7 : Nat) : Int), .ref r0, second])) t4 (.tup [.int ((8 : Nat) : Int), .ref cA, second])) R (.lst [.ref t1, .ref t2, .ref t3, .ref t4])) R = some (.lst ([t1, t2, t3, t4].map V.ref)) := upd_same
      have s03 := Same.trans s3 q16
      clear q1 q2 q3 q4 q5 q6 q16 s3
      revert hrow hR s03
      show (∀ t ∈ [t1, t2, t3, t4], Row2Ok cA second (upd (upd (upd (upd (upd (upd H3 t1 (.tup [.int ((5 : Nat) : Int), .ref cA, second])) t2 (.tup [.int ((6 : Nat) : Int), .ref cA, second])) r0 (.lst [])) t3 (.tup [.int ((7 : Nat) : Int), .ref r0, second])) t4 (.tup [.int ((8 : Nat) : Int), .ref cA, second])) R (.lst [.ref t1, .ref t2, .ref t3, .ref t4])) t) → _ → _ → _
      generalize (upd (upd (upd (upd (upd (upd H3 t1 (.tup [.int ((5 : Nat) : Int), .ref cA, second])) t2 (.tup [.int ((6 : Nat) : Int), .ref cA, second])) r0 (.lst [])) t3 (.tup [.int ((7 : Nat) : Int), .ref r0, second])) t4 (.tup [.int ((8 : Nat) : Int), .ref cA, second])) R (.lst [.ref t1, .ref t2, .ref t3, .ref t4])) = H4
      intro hrow hR s03
      refine for_it (walk_list (K := K) (a := R) (xs := [t1, t2, t3, t4].map V.ref)) (fun i σ H' => Same H4 H' ∧ ∃ v13 v14 v15 v16 : Option V, σ = RS b m p L1 L2 cA zA oA G bad second v11 v12 v13 v14 v15 v16 none) ⟨Same.refl _, _, _, _, _, rfl⟩ (fun i σ H' _ pv => .inl (.inl (pv.1 _ _ hR))) (fun i x σ H5 H6 hi pv yv => ?_) (fun σ H5 pv => ?_)
      · obtain ⟨s5, v13, v14, v15, v16, rfl⟩ := pv
        obtain ⟨rfl, hx⟩ := yv
        obtain ⟨t, ht, rfl⟩ := List.mem_map.mp (List.mem_of_getElem? hx)
        have s05 := Same.trans s03 s5
        have hd5 := hd.same s05
        have fin : ∀ (l : Addr) (H7 : Hp), Same H6 H7 → H7 l = some (.lst [.str "counts", second]) → ∀ l2, H7 l2 = none → RcB K (upd H7 l2 (.lst [.str "counts", second])) (EqB K (upd H7 l2 (.lst [.str "counts", second])) 1) (.ref l) (.ref l2) true := fun l H7 s7 hl l2 nl2 => pair_eq (same_upd nl2 _ _ hl) upd_same hsec.any
        rcases (hrow t ht).same s5 with ⟨k, hk, htt⟩ | ⟨r0, htt, hr0⟩
        · refine ⟨t, _, rfl, .inl (.inl htt), rfl, _, _, rfl, _, _, rfl, _, _, rfl, rfl, ?_⟩
          exact ⟨_, rfl, _, rfl, _, rfl, _, rfl, nil_of (ref_counts2 hk hd5.hp hd.ok hd5.hc hd.g hd.hm (hs0 s05).noCounts hsn fun l H7 s7 nl hl => ⟨_, rfl, sz 2, fun l2 nl2 => ⟨1, true, by decide, fin l H7 s7 hl l2 nl2, _, rfl, Same.trans s5 (Same.trans s7 (same_upd nl2)), _, _, _, _, rfl⟩⟩)⟩
        · refine ⟨t, _, rfl, .inl (.inl htt), rfl, _, _, rfl, _, _, rfl, _, _, rfl, rfl, ?_⟩
          exact ⟨_, rfl, _, rfl, _, rfl, _, rfl, nil_of (ref_behind0 hd5.hp hd.ok hr0 (.inl ⟨hsn, (hs0 s05).noCounts, fun l H7 s7 nl hl => ⟨_, rfl, sz 2, fun l2 nl2 => ⟨1, true, by decide, fin l H7 s7 hl l2 nl2, _, rfl, Same.trans s5 (Same.trans s7 (same_upd nl2)), _, _, _, _, rfl⟩⟩⟩))⟩
      · obtain ⟨s5, v13, v14, v15, v16, rfl⟩ := pv
        exact ⟨Same.trans s03 s5, _, _, _, _, _, rfl⟩
    clear s3 v12 v13 v14 v15 v16 H3
    rintro σ H3 ⟨s3, v12, v13, v14, v15, v16, rfl⟩
    -- over, where it is no moment
    refine ⟨fun σ H' => Same H H' ∧ ∃ v12 v13 v14 v15 v16 : Option V, σ = RS b m p L1 L2 cA zA oA G bad second v11 v12 v13 v14 v15 v16 none, ?_, ?_⟩
    · subst hv11
      cases hov : momB d (cntOf (mapC d.evs fun _ => 100000000000000000000000000000)) with
      | true => exact ⟨_, rfl, rfl, _, rfl, s3, _, _, _, _, _, rfl⟩
      | false =>
        have hd3 := hd.same s3
        refine ⟨_, rfl, rfl, _, rfl, ?_⟩
        refine ⟨_, rfl, _, rfl, lastc (ref_moment (k := 3) (by omega) hd3.hp hd.ok hd3.ho go hov fun l1 J1 u1 m1 h1 => ?_)⟩
        have u03 := Same.trans s3 u1
        have hd4 := hd.same u03
        refine ⟨_, rfl, _, rfl, lastc (ref_moment (k := 4) (by omega) hd4.hp hd.ok hd4.ho go hov fun l2 J2 u2 m2 h2 => ?_)⟩
        have u04 := Same.trans u03 u2
        refine ⟨_, rfl, sz 0, fun r0 nr0 => ⟨_, rfl, ?_⟩⟩
        have u05 := Same.trans u04 (same_upd (o := .lst []) nr0)
        have hd5 := hd.same u05
        refine nil_of (ref_behind0 hd5.hp hd.ok upd_same (.inr (.inl ⟨oA, _, rfl, hd5.ho, go, hov, fun l3 J3 u3 m3 h3 => ?_⟩)))
        have w1 := u3 _ _ (same_upd nr0 _ _ (u2 _ _ h1))
        have w2 := u3 _ _ (same_upd (o := .lst []) nr0 _ _ h2)
        have u06 := Same.trans u05 u3
        refine ⟨sz 3, fun R nR => ?_⟩
        have hR : (upd J3 R (.lst [.ref l1, .ref l2, .ref l3])) R = some (.lst [.ref l1, .ref l2, .ref l3]) := upd_same
        have uR := same_upd (o := .lst [.ref l1, .ref l2, .ref l3]) nR
        have u07 := Same.trans u06 uR
        have w1 := uR _ _ w1
        have w2 := uR _ _ w2
        have w3 := uR _ _ h3
        revert hR u07 w1 w2 w3
        clear uR h1 h2 h3 u05 u06 hd5
        generalize upd J3 R (.lst [.ref l1, .ref l2, .ref l3]) = J4
        intro hR u07 w1 w2 w3
        have hd7 := hd.same u07
        refine ⟨_, rfl, _, rfl, _, rfl, _, rfl, nil_of (ref_moment (k := 8) (by omega) hd7.hp hd.ok hd7.ho go hov fun l4 J5 u4 m4 h4 => ?_)⟩
        have u08 := Same.trans u07 u4
        have hd8 := hd.same u08
        refine ⟨_, rfl, _, rfl, _, rfl, nil_of (ref_run_to hd8.hp hd.ok hd8.hc hd.g hd.hm (.inl ⟨oA, _, rfl, hd8.ho, go, hov, fun l5 J6 u5 m5 h5 => ⟨sz 2, fun R2 nR2 => .inr (.inr ⟨R, R2, _, _, rfl, rfl, same_upd nR2 _ _ (u5 _ _ (u4 _ _ hR)), upd_same, sz 5, fun R3 nR3 => ?_⟩)⟩⟩))⟩
        have x1 := same_upd (o := .lst [.ref l4, .ref l5]) nR2
        have x2 := same_upd (o := .lst ([V.ref l1, .ref l2, .ref l3] ++ [.ref l4, .ref l5])) nR3
        have x12 := Same.trans u5 (Same.trans x1 x2)
        have x4 := Same.trans u4 x12
        have u09 := Same.trans u08 x12
        have w1 := x4 _ _ w1
        have w2 := x4 _ _ w2
        have w3 := x4 _ _ w3
        have w4 := x12 _ _ h4
        have w5 := x2 _ _ (x1 _ _ h5)
        have hR3 : (upd (upd J6 R2 (.lst [.ref l4, .ref l5])) R3 (.lst ([V.ref l1, .ref l2, .ref l3] ++ [.ref l4, .ref l5]))) R3 = some (.lst [.ref l1, .ref l2, .ref l3, .ref l4, .ref l5]) := upd_same
        revert hR3 u09 w1 w2 w3 w4 w5
        clear x1 x2 x12 x4 h4 h5
        generalize upd (upd J6 R2 (.lst [.ref l4, .ref l5])) R3 (.lst ([V.ref l1, .ref l2, .ref l3] ++ [.ref l4, .ref l5])) = J7
        intro u09 w1 w2 w3 w4 w5 hR3
        refine ⟨_, rfl, _, rfl, sz 2, fun M1 nM1 => ⟨sz 1, fun M2 nM2 => ⟨M2, 5, _, rfl, rfl, upd_same, by decide, by decide, sz 5, fun M3 nM3 => ⟨2, true, by decide, ?_, _, rfl, ?_⟩⟩⟩⟩
        · have y1 := same_upd (o := .lst [.str "moment", .ref oA]) nM1
          have y2 := same_upd (o := .lst [.ref M1]) nM2
          have y3 := same_upd (o := .lst [.ref M1, .ref M1, .ref M1, .ref M1, .ref M1]) nM3
          have y13 := Same.trans y1 (Same.trans y2 y3)
          have hM1 := y3 _ _ (y2 _ _ (upd_same (H := J7) (a := M1) (o := .lst [.str "moment", .ref oA])))
          have one : ∀ l, J7 l = some (.lst [.str "moment", .ref oA]) → EqB K _ 2 (.ref l) (.ref M1) true := fun l hl => eqb_obj (pair_eq (y13 _ _ hl) hM1 trivial)
          exact ⟨R3, M3, rfl, rfl, fun _ => rfl, .inl ⟨_, _, [true, true, true, true, true], .inl (.inl (y13 _ _ hR3)), .inl (.inl upd_same), .cons (one _ w1) (.cons (one _ w2) (.cons (one _ w3) (.cons (one _ w4) (.cons (one _ w5) .nil)))), rfl⟩⟩
        · have y13 := Same.trans (same_upd (o := .lst [.str "moment", .ref oA]) nM1) (Same.trans (same_upd (o := .lst [.ref M1]) nM2) (same_upd (o := .lst [.ref M1, .ref M1, .ref M1, .ref M1, .ref M1]) nM3))
          have u10 := Same.trans u09 y13
          have hd10 := hd.same u10
          refine ⟨_, rfl, _, rfl, _, rfl, nil_of (ref_five hd10.hp hd.ok hd10.ho go hd10.hc hd.g fun x l9 J9 u9 m9 h9 => ⟨l9, _, ((0 : Nat) : Int), _, rfl, rfl, .inl (.inl h9), atI_nat rfl, rfl, _, rfl, Same.trans u10 u9, _, _, _, _, _, rfl⟩)⟩
    clear s3 v12 v13 v14 v15 v16 H3 hv11
    rintro σ H3 ⟨s3, v12, v13, v14, v15, v16, rfl⟩
    -- counts that are behind
    refine ⟨fun σ H' => Same H H' ∧ ∃ v12 v13 v14 v15 v16 : Option V, σ = RS b m p L1 L2 cA zA oA G bad second v11 v12 v13 v14 v15 v16 none, ?_, ?_⟩
    · have hd3 := hd.same s3
      have keys : ∀ q ∈ ks, ∃ e ∈ d.evs, q.1 = .inr e ∧ q.2 = .int (cntOf ks e) := fun q hq => by
        obtain ⟨e, he, h2⟩ := List.mem_map.mp (hd.hk.mem_iff.mp (List.mem_map_of_mem hq))
        have h3 := valV_of_mem hd.g.nd hq
        rw [← h2, (cntOf_ok hd.g.cb he).1] at h3
        exact ⟨e, he, h2.symm, (Option.some.inj h3).symm⟩
      have hlen : ks.length = (mapC d.evs fun _ => 0).length := by
        have h1 := hd.hk.length_eq
        rw [List.length_map, List.length_map] at h1
        unfold mapC
        rw [List.length_map]
        exact h1
      have hv : ∀ q ∈ ks, flatV q.2 = true ∧ ∃ y, valV (mapC d.evs fun _ => 0) q.1 = some y ∧ flatV y = true := fun q hq => by
        obtain ⟨e, he, h2, h3⟩ := keys q hq
        rw [h2, h3]
        exact ⟨rfl, _, valV_mapC hd.ok.evs.nd he, rfl⟩
      refine ⟨_, rfl, _, rfl, 1, _, by decide, ⟨cA, zA, rfl, rfl, fun z => absurd z hd.ne, .inr (.inr (.inr (.inl ⟨_, _, _, hd3.hc, hd3.hz, hlen, keyd_flat (n := 0) hv, rfl⟩)))⟩, ?_⟩
      cases hall : (ks.all fun q => match valV (mapC d.evs fun _ => 0) q.1 with | some y => eqV q.2 y | none => false) with
      | true => exact ⟨_, rfl, s3, _, _, _, _, _, rfl⟩
      | false =>
        obtain ⟨q, hq, hne⟩ : ∃ q ∈ ks, (match valV (mapC d.evs fun _ => 0) q.1 with | some y => eqV q.2 y | none => false) = false := by
          obtain ⟨q, hq, h2⟩ := List.all_eq_false.mp hall
          exact ⟨q, hq, by simpa using h2⟩
        obtain ⟨e, he, h2, h3⟩ := keys q hq
        rw [h2, valV_mapC hd.ok.evs.nd he, h3] at hne
        have hne : (cntOf ks e == 0) = false := hne
        have hne : cntOf ks e ≠ 0 := by simpa using hne
        have hpos := (cntOf_ok hd.g.cb he).2
        refine ⟨_, rfl, _, rfl, _, rfl, _, rfl, nil_of (ref_run_to hd3.hp hd.ok hd3.hz gz mz (.inr (.inl ⟨cA, ks, rfl, hd3.hc, hd.g, hd.hm, ⟨e, he, by rw [ez]; show (0 : Int) < _; omega⟩, fun l H6 s6 nl hl => ⟨_, rfl, sz 2, fun l2 nl2 => ⟨1, true, by decide, pair_eq (same_upd nl2 _ _ hl) upd_same trivial, _, rfl, Same.trans s3 (Same.trans s6 (same_upd nl2)), _, _, _, _, _, rfl⟩⟩⟩)))⟩
    clear s3 v12 v13 v14 v15 v16 H3
    rintro σ H3 ⟨s3, v12, v13, v14, v15, v16, rfl⟩
    -- told once more
    refine ⟨fun σ H' => Same H H' ∧ ∃ (v12 v13 v14 v15 v16 : Option V) (ag : Addr) (ys : List V), σ = RS b m p L1 L2 cA zA oA G bad second v11 v12 v13 v14 v15 v16 (some (.ref ag)) ∧ H' ag = some (.lst ys) ∧ ys.length = 7 ∧ Good d (cntOf ks) (fun _ => 0) H' ys, ?_, ?_⟩
    · refine ⟨7, rfl, by decide, by decide, fun D hD => lc_rngO (n := 7) hD (by decide) (SevenR d (cntOf ks) (fun _ => 0) D) seven_same (fun y k H' o h _ _ _ => seven_put y k H' o h) (fun _ => rfl) (fun k hk H' s' hys N hN => ?_) (fun ys H' s' hy hl hR => ?_)⟩
      · obtain ⟨ys, hy, hyl, hyR⟩ := hys
        have hd4 := hd.same (Same.trans s3 s')
        refine ⟨_, rfl, _, rfl, _, rfl, _, rfl, nil_of (ref_told (by omega) hd4.hp hd.ok hd4.hc hd.g hd.hm hd4.hz gz fun v l H6 s6 nl hl t => hN _ _ s6 ?_)⟩
        rw [ez] at t
        exact seven_of hy hyl hyR s6 nl hl t
      · refine ⟨Same.trans s3 s', _, _, _, _, _, D, ys, rfl, hy, hl, fun i x hx _ => ?_⟩
        obtain ⟨l, v, e, _, h1, h2, _⟩ := hR i x hx
        exact ⟨l, v, e, h1, h2⟩
    clear s3 v12 v13 v14 v15 v16 H3
    rintro σ H3 ⟨s3, v12, v13, v14, v15, v16, ag, ys, rfl, hag, hyl, hys⟩
    have hg3 := hgood.same s3
    refine ⟨_, rfl, _, rfl, 7, rfl, G, gs, rfl, .inl (.inl (s3 _ _ hG)), fun S nS => ⟨4, true, by decide, ⟨ag, S, rfl, rfl, fun _ => rfl, .inl ⟨ys, cutV gs none (some 7), _, .inl (.inl (same_upd nS _ _ hag)), .inl (.inl upd_same), ansd_all ?_ ?_, (all_true _).symm⟩⟩, _, rfl, ?_⟩⟩
    · have hcut : cutV gs none (some ((7 : Nat) : Int)) = gs.take 7 := by
        unfold cutV
        rw [HT.sIx_none, HT.sIx_nat, List.drop_zero, Nat.sub_zero, hgl]
        rfl
      show ys.length = (cutV gs none (some ((7 : Nat) : Int))).length
      rw [hcut, List.length_take, hgl, hyl]
      rfl
    · intro i x y hx hy
      have hcut : cutV gs none (some ((7 : Nat) : Int)) = gs.take 7 := by
        unfold cutV
        rw [HT.sIx_none, HT.sIx_nat, List.drop_zero, Nat.sub_zero, hgl]
        rfl
      have hy : (cutV gs none (some ((7 : Nat) : Int)))[i]? = some y := hy
      rw [hcut] at hy
      have hi : i < 7 := by
        have := (List.getElem?_eq_some_iff.mp hx).1
        omega
      rw [List.getElem?_take, if_pos hi] at hy
      obtain ⟨l, v, rfl, h1, h2⟩ := hys.same (same_upd (o := .lst (cutV gs none (some 7))) nS) i x hx hi
      obtain ⟨l', v', rfl, h1', h2'⟩ := hg3.same (same_upd (o := .lst (cutV gs none (some 7))) nS) i y hy hi
      exact eqb_obj (n := 3) ⟨l, l', rfl, rfl, fun _ => rfl, .inl ⟨_, _, [true, true], .inl (.inl h1), .inl (.inl h1'), .cons (eqb_refl rfl) (.cons (told_eq hi hd.ok.evs.nd h2 h2') .nil), rfl⟩⟩
    · have s4 : Same H (upd H3 S (.lst (cutV gs none (some 7)))) := Same.trans s3 (same_upd nS)
      have hd4 := hd.same s4
      have fin : ∀ H', Same (upd H3 S (.lst (cutV gs none (some 7)))) H' → Q (.bl true) H' := fun H' s => q H' (Same.trans s4 s)
      rcases (hb0 s4).noCounts (K := K) hd.ok.evs with ⟨t, ht, hk⟩ | ⟨c, kvs, rfl, h1, h2, h3⟩
      · exact ⟨_, rfl, _, rfl, .ref p, bad, rfl, .inr ⟨p, d, rfl, hd4.hp, hl8, .inl ⟨t, ht, hk, false, false, rfl, rfl, fin _ (Same.refl _)⟩⟩⟩
      · refine ⟨_, rfl, _, rfl, .ref p, .ref c, rfl, .inr ⟨p, d, rfl, hd4.hp, hl8, .inr ⟨c, kvs, rfl, h1, h2, fun H' s => ?_⟩⟩⟩
        rw [h3]
        exact ⟨false, false, rfl, rfl, fin _ s⟩
end
end Pk

set_option Elab.async false
set_option linter.all false
set_option maxRecDepth 100000
set_option maxHeartbeats 4000000
namespace Pk
open PySem PySem.Spec PyProof.Rows L2 Pu
open PySem.Er (ErrTxt)
abbrev s_law_right : Stmt := topS 76
theorem sc_law_right : FnScope ["_law_box_here", "_law_model", "_law_plan_here", "_law_zero_here", "_law_counts", "_law_odds", "_law_odd", "_law_second", "_law_bad", "_law_over", "_law_way", "_law_good", "_law_event", "_law_one", "_law_told"] ["_law_box_here"] (defScope s_law_right) := ⟨rfl, rfl, rfl, by decide +kernel, rfl, by decide +kernel, by decide +kernel⟩

section
variable {P : Program} {w : World} {K : PySem.W.Frag} {mg : Str → Option Value} {base : Heap}
/-! ### dict([(event, number) for event in ..]) -/
theorem lc_const {J : It} {G : Hp → Prop} {es : List Str} {D : Addr} {H1 : Hp} {te : TE} {i : Nat} {vs : List Nat} {σ : L2.St} {Qd : Hp → Prop} (n : Int) (w : Walk J es.length G (YAt (es.map V.str))) (hD : H1 D = none) (hG : ∀ H', Same H1 H' → G H') (hz : es.length < sizeLine)
    (hw : ∀ x, wipe ((wipe σ vs).set i (some x)) vs = wipe σ vs)
    (step : ∀ x, x ∈ es → ∀ H', ∀ (N : VK), (∀ T, H' T = none → N (.ref T) (upd H' T (.tup [.str x, .int n]))) → te ((wipe σ vs).set i (some (.str x))) H' N)
    (fin : ∀ (ps : List Addr) H', Same H1 H' → H' D = some (.lst (ps.map V.ref)) → Paired (fun p (kv : Key × V) => SqT K H' p [kV kv.1, kv.2]) ps (mapC es fun _ => n) → Qd H') :
    ∃ W : Nat → Nat → Hp → Prop, (∃ m, W 0 m (upd H1 D (.lst []))) ∧ ∀ i' m H, W i' m H →
      (J.stop i' H ∧ Qd H) ∨ (J.go i' H ∧ ∃ Nx : Hp → Prop, (∀ H', Nx H' → ∃ m', m' < m ∧ W (i' + 1) m' H') ∧ ∀ x H', J.yld i' H x H' → gName i x (wipe σ vs) H' fun σ2 H2 => wipe σ2 vs = wipe σ vs ∧ tYes σ2 H2 fun b H3 =>
        if b = true then te σ2 H3 fun y H4 => ∃ acc, H4 D = some (.lst acc) ∧ acc.length < sizeLine ∧ Nx (upd H4 D (.lst (acc ++ [y]))) else Nx H3) := by
  refine lc_obj (v := V.str) (xs := es) w hD hG hz (fun y x H' => ∃ a, y = .ref a ∧ H' a = some (.tup [.str x, .int n])) (fun y x H' H'' h s => let ⟨a, e1, e2⟩ := h; ⟨a, e1, s _ _ e2⟩) hw (fun y x H' o h hl => ?_) (fun x hx H' s N hN => step x hx H' N fun T hT => hN _ _ (same_upd hT) ⟨T, rfl, upd_same⟩) (fun ys H' s hy hp => ?_)
  · obtain ⟨a, e1, e2⟩ := h
    obtain ⟨zs, hz⟩ := hl
    exact ⟨a, e1, by rw [upd_ne (ne_of e2 hz (fun z => nomatch z))]; exact e2⟩
  · have key : ∃ ps : List Addr, ys = ps.map V.ref ∧ Paired (fun p (kv : Key × V) => SqT K H' p [kV kv.1, kv.2]) ps (mapC es fun _ => n) := by
      clear hy fin step w hz hG s
      induction hp with
      | nil => exact ⟨[], rfl, .nil⟩
      | cons r _ ih =>
        obtain ⟨a, rfl, e2⟩ := r
        obtain ⟨ps, rfl, h⟩ := ih
        exact ⟨a :: ps, rfl, .cons (.inl (.inl e2)) h⟩
    obtain ⟨ps, rfl, hps⟩ := key
    exact fin ps H' s hy hps
/-! ### what is drawn ahead -/
structure Drawn (K : PySem.W.Frag) (C b : Addr) (H : Hp) (m p zA cA : Addr) (d : PlanD) (ks : List (Key × V)) : Prop where
  hm : ModAt b H m d
  ok : PlanOk d
  hp : PlanAt K C H p d
  hz : H zA = some (.dK (mapC d.evs fun _ => 0))
  hc : H cA = some (.dK ks)
  g : Going d ks
  mo : momB d (cntOf ks) = true
  hk : (ks.map (·.1)).Perm (d.evs.map .inr)
  ne : cA ≠ zA
theorem Drawn.ext {C b : Addr} {H H' : Hp} {m p zA cA : Addr} {d : PlanD} {ks : List (Key × V)} {n : Int} (h : Drawn K C b H m p zA cA d ks) (B : Box H b n) (e : Pu.Ext b H H') : Drawn K C b H' m p zA cA d ks := by
  obtain ⟨x, y, z, hb, _⟩ := id B
  exact ⟨h.hm.ext e, h.ok, h.hp.ext B e, e _ _ (ne_of h.hz hb (fun z => nomatch z)) h.hz, e _ _ (ne_of h.hc hb (fun z => nomatch z)) h.hc, h.g, h.mo, h.hk, h.ne⟩

def spRight : Sp := fun vs H Q _ => ∃ (b : Addr), vs = [.ref b] ∧ Box H b 0 ∧ ∀ H', Pu.Ext b H H' → Q (.bl true) H'
abbrev RT (b m p zA : Addr) (v4 v5 v6 v7 v8 v9 v10 v11 : Option V) : _root_.L2.St := [some (.ref b), some (.ref m), some (.ref p), some (.ref zA), v4, v5, v6, v7, v8, v9, v10, v11, none, none, none]
def oddL (e1 t1 lp m : Addr) : List V := [.non, .int 7, .bl true, .str "events a b", .ref e1, .ref t1, .ref lp, .str "plan", .ref m]
theorem ok_right {a : Addrs} {f : Addr} {fd : FuncData} (F : Fun K "_law_right" "_law_right" s_law_right f fd) (T : Txt mg) (KP : KitP K a.C) (claw_take : Cal P w K mg base 1 "_law_take" spTake []) (claw_plan : Cal P w K mg base 3 "_law_plan" spLPlan []) (claw_made : Cal P w K mg base 7 "_law_made" (spMade K a.C) []) (claw_zero : Cal P w K mg base 1 "_law_zero" spZero [])
    (claw_run : Cal P w K mg base 2 "_law_run" spRunL []) (claw_turned : Cal P w K mg base 3 "_law_turned" spTurned []) (claw_refused : Cal P w K mg base 11 "_law_refused" (spRefused K a) []) (claw_rest_right : Cal P w K mg base 12 "_law_rest_right" (spRest K a) []) :
    FnOk P w K mg base CX0 13 f fd ["_law_box_here"] spRight := by
  have nd := sc_law_right.nd
  refine F.ok sc_law_right (fun vs H Q E h => ?_) (fun cdv A outer s H vs Q E hr h => ?_)
  · obtain ⟨_, rfl, _⟩ := h
    rfl
  · obtain ⟨b, rfl, hB, q⟩ := h
    refine ⟨_, (pss_cons (ps_set (i := 1) nd rfl (Or.inl rfl) (pe_c claw_plan hr (by decide) rfl (pa_cons (pv 0) (pa_cons pe_int (pa_cons pe_int (pa_cons pe_bl pa_nil))))))
      (pss_cons (ps_asg (pe_tup (pa_cons (pe_c claw_made hr (by decide) rfl (pa_cons (pv 0) (pa_cons (pv 1) pa_nil))) (pa_cons (pe_c claw_zero hr (by decide) rfl (pa_cons (pv 1) pa_nil)) pa_nil))) (pg_tup rfl (pgs_cons (pg_name (i := 2) nd rfl (Or.inr rfl)) (pgs_cons (pg_name (i := 3) nd rfl (Or.inr rfl)) pgs_nil))))
      (pss_cut (ps_set (i := 4) nd rfl (Or.inr rfl) (pe_c claw_turned hr (by decide) rfl (pa_cons (pv 0) (pa_cons (pe_ix (ixT K) (pe_c claw_run hr (by decide) rfl (pa_cons (pv 0) (pa_cons (pv 1) (pa_cons (pv 3) (pa_cons pe_int pa_nil))))) pe_int (fun _ _ => rfl)) pa_nil))))
      (pss_cons (ps_set (i := 5) nd rfl (Or.inl rfl) (pe_lst (pa_cons pe_non (pa_cons pe_int (pa_cons pe_bl (pa_cons pe_str (pa_cons (pe_lst pa_nil) (pa_cons (pe_tup pa_nil) (pa_cons (pe_lst (pa_cons (pv 2) pa_nil)) (pa_cons pe_str (pa_cons (pv 1) pa_nil)))))))))))
      (pss_cut (ps_par (i := 6) (j := 7) rfl nd rfl rfl (by decide) rfl rfl (pa_cons (pe_ix (ixL K) (pv 5) (pe_c claw_take hr (by decide) rfl (pa_cons (pv 0) (pa_cons pe_int pa_nil))) (fun _ _ => rfl)) (pa_cons (pe_ix (ixL K) (pv 5) (pe_op oAdd pe_int (pe_c claw_take hr (by decide) rfl (pa_cons (pv 0) (pa_cons pe_int pa_nil)))) (fun _ _ => rfl)) pa_nil)) (by rfl))
      (pss_cut (ps_set (i := 8) nd rfl (Or.inl rfl) (pe_ix (ixL K) (pe_lst (pa_cons pe_non (pa_cons pe_int (pa_cons (pe_lst pa_nil) (pa_cons pe_str (pa_cons pe_bl (pa_cons (pe_callTy (call_dictP rfl) (by rfl) T.m_dict PyProof.Rows.boot_dict (pa_cons (pe_lc (own := [("_law_event", 12)]) (g := gName 12) (tt := tYes) rfl nd (pi_list (pe_ix (ixL K) (pv 1) pe_int (fun _ _ => rfl))) (blkOk_by (N := ["_law_box_here", "_law_model", "_law_plan_here", "_law_zero_here", "_law_counts", "_law_odds", "_law_odd", "_law_second", "_law_bad", "_law_over", "_law_way", "_law_good", "_law_event", "_law_one", "_law_told"]) (sc := defScope s_law_right) (by decide +kernel)) (fun _ _ _ _ _ => pg_name (i := 12) nd rfl (Or.inl rfl)) (fun _ _ _ _ _ => pts_nil) (fun _ _ _ _ _ => (pe_tup (pa_cons (pv 12) (pa_cons (pe_un un_neg pe_int) pa_nil))))) pa_nil)) (pa_cons (pe_callTy (call_list_dK rfl) (by rfl) T.m_list PyProof.Rows.boot_list (pa_cons (pv 4) pa_nil)) pa_nil)))))))) (pe_c claw_take hr (by decide) rfl (pa_cons (pv 0) (pa_cons pe_int pa_nil))) (fun _ _ => rfl)))
      (pss_cut (ps_set (i := 9) nd rfl (Or.inl rfl) (pe_callTy (call_dictP rfl) (by rfl) T.m_dict PyProof.Rows.boot_dict (pa_cons (pe_lc (own := [("_law_one", 13)]) (g := gName 13) (tt := tYes) rfl nd (pi_list (pe_ix (ixL K) (pv 1) pe_int (fun _ _ => rfl))) (blkOk_by (N := ["_law_box_here", "_law_model", "_law_plan_here", "_law_zero_here", "_law_counts", "_law_odds", "_law_odd", "_law_second", "_law_bad", "_law_over", "_law_way", "_law_good", "_law_event", "_law_one", "_law_told"]) (sc := defScope s_law_right) (by decide +kernel)) (fun _ _ _ _ _ => pg_name (i := 13) nd rfl (Or.inl rfl)) (fun _ _ _ _ _ => pts_nil) (fun _ _ _ _ _ => (pe_tup (pa_cons (pv 13) (pa_cons (pe_op op_pow pe_int pe_int) pa_nil))))) pa_nil)))
      (pss_cut (ps_setLc (i := 11) (y := "_law_good") (own := [("_law_way", 10)]) (g := gName 10) (tt := tYes) rfl nd rfl rfl (sw_true rfl rfl rfl (by decide +kernel)) (pi_range1 rfl T.m_range (pa_cons pe_int pa_nil)) (blkOk_by (N := ["_law_box_here", "_law_model", "_law_plan_here", "_law_zero_here", "_law_counts", "_law_odds", "_law_odd", "_law_second", "_law_bad", "_law_over", "_law_way", "_law_good", "_law_event", "_law_one", "_law_told"]) (sc := defScope s_law_right) (by decide +kernel)) (fun _ _ _ _ _ => pg_name (i := 10) nd rfl (Or.inl rfl)) (fun _ _ _ _ _ => pts_nil) (fun _ _ _ _ _ => (pe_c claw_refused hr (by decide) rfl (pa_cons (pv 10) (pa_cons (pv 2) (pa_cons (pv 4) (pa_cons (pv 3) pa_nil)))))))
      (pss_cut (ps_set (i := 11) nd rfl (Or.inl rfl) (pe_op oAdd (pv 11) (pe_lst (pa_cons (pe_c claw_refused hr (by decide) rfl (pa_cons pe_int (pa_cons (pv 2) (pa_cons (pe_lst pa_nil) (pa_cons (pv 4) pa_nil))))) (pa_cons (pe_c claw_refused hr (by decide) rfl (pa_cons pe_int (pa_cons (pv 2) (pa_cons (pv 4) (pa_cons pe_non pa_nil))))) pa_nil)))))
      (pss_cut (ps_if (pt_cmpR (op_neB K hr) (pe_lc (own := [("_law_told", 14)]) (g := gName 14) rfl nd (pi_list (pv 11)) (blkOk_by (N := ["_law_box_here", "_law_model", "_law_plan_here", "_law_zero_here", "_law_counts", "_law_odds", "_law_odd", "_law_second", "_law_bad", "_law_over", "_law_way", "_law_good", "_law_event", "_law_one", "_law_told"]) (sc := defScope s_law_right) (by decide +kernel)) (fun _ _ _ _ _ => pg_name (i := 14) nd rfl (Or.inl rfl)) (fun _ _ _ _ _ => pts_one (pt_cmpR op_ne (pe_ix (ixL K) (pv 14) pe_int (fun _ _ => rfl)) pe_str (by rfl))) (fun _ _ _ _ _ => (pv 14))) (pe_lst pa_nil) (by rfl))
      (pss_one (ps_ret pe_bl)) pss_nil)
      (pss_cut (ps_for PassesOwn.never rfl (pi_range1 rfl T.m_range (pa_cons pe_int pa_nil)) (pg_name (i := 10) nd rfl (Or.inl rfl))
      (pss_one (ps_if (pt_cmpR (op_neB K hr) (pe_c claw_refused hr (by decide) rfl (pa_cons (pv 10) (pa_cons (pv 6) (pa_cons (pv 8) (pa_cons (pv 7) pa_nil))))) (pe_lst (pa_cons pe_str (pa_cons (pv 6) pa_nil))) (by rfl))
      (pss_one (ps_ret pe_bl)) pss_nil)))
      (pss_one (ps_ret (pe_c claw_rest_right hr (by decide) rfl (pa_cons (pv 0) (pa_cons (pv 1) (pa_cons (pv 2) (pa_cons (pe_lst (pa_cons (pv 4) (pa_cons (pv 3) (pa_cons (pv 9) pa_nil)))) (pa_cons (pe_lst (pa_cons (pv 8) (pa_cons (pv 7) (pa_cons (pv 11) pa_nil)))) pa_nil))))))))))))))))))), ?_⟩
    -- the plan, the moment
    refine ⟨_, rfl, b, 4, 6, 0, false, rfl, by decide, by decide, by decide, by decide, by decide, hB, fun m d H1 B1 e1 nm hm lp => ?_⟩
    have hl8 := lp.ok.evs.hi
    refine ⟨_, rfl, _, rfl, b, m, _, d, rfl, hm, lp.ok, by decide, B1, fun p H2 B2 e2 np hp2 => ?_⟩
    have hm2 := hm.ext e2
    refine ⟨_, rfl, b, m, d, rfl, hm2, lp.ok.evs, fun zA H3 s3 nz hz3 => ⟨sz 2, fun T0 nT0 => ⟨T0, _, rfl, .inl (.inl upd_same), rfl, _, _, rfl, _, _, rfl, rfl, ?_⟩⟩⟩
    have s34 : Same H3 (upd H3 T0 (.tup [.ref p, .ref zA])) := same_upd nT0
    have s24 := Same.trans s3 s34
    have B4 := B2.same s24
    have e4 : Pu.Ext b H (upd H3 T0 (.tup [.ref p, .ref zA])) := (e1.trans e2).trans (same_ext s24)
    have hm4 := hm2.same s24
    have hp4 := hp2.same s24
    have hz4 := s34 _ _ hz3
    revert B4 e4 hm4 hp4 hz4
    clear s34 s24
    generalize upd H3 T0 (.tup [.ref p, .ref zA]) = H4
    intro B4 e4 hm4 hp4 hz4
    clear hz3 nz nT0 s3 hm2 np hp2 B2 e2 nm hm B1 e1 hB T0 H3 H2 H1
    have hzc := cnt_zero lp.ok.evs.nd
    have gz : Going d (mapC d.evs fun _ => 0) := going_mapC lp.ok.evs fun _ _ => Int.le_refl _
    have mz : momB d (cntOf (mapC d.evs fun _ => 0)) = true := by rw [hzc]; exact zero_mom lp.ok
    refine ⟨fun σ H' => Box H' b 1000 ∧ Pu.Ext b H H' ∧ ∃ cA ks, σ = RT b m p zA (some (.ref cA)) none none none none none none none ∧ Drawn K a.C b H' m p zA cA d ks ∧ gapS d.evs (fun _ => 0) (cntOf ks) ≤ 8, ?_, ?_⟩
    · refine ⟨_, rfl, _, rfl, _, rfl, _, rfl, b, m, zA, 8, _, d, _, rfl, by decide, by decide, B4, hm4, lp.ok, hz4, gz, mz, fun T r c' es ks' H5 B5 e5 hT nT hr0 hr nr hc' hle hin hw g5 m5 hk => ⟨T, _, ((1 : Nat) : Int), _, rfl, rfl, .inl (.inl hT), atI_nat rfl, ?_⟩⟩
      have hlk : ks'.length ≤ 8 := by
        have h1 := congrArg List.length hk
        rw [List.length_map, List.length_map] at h1
        unfold mapC at h1
        rw [List.length_map] at h1
        omega
      refine ⟨b, c', _, ks', rfl, hc', g5.nd, by omega, by decide, B5, fun q2 ks2 H6 B6 e6 nq hq hperm => ?_⟩
      obtain ⟨g6, c6⟩ := going_perm hperm g5
      have nzb : zA ≠ b := by
        obtain ⟨x, y, z, hb, _⟩ := B4
        exact ne_of hz4 hb (fun z => nomatch z)
      have hz6 := e6 _ _ nzb (e5 _ _ nzb hz4)
      rw [hzc] at hw
      obtain ⟨w1, w2⟩ := walk_gap lp.ok.evs.nd hin hw
      refine ⟨B6.mono (by omega), (e4.trans e5).trans e6, q2, ks2, rfl, ⟨(hm4.ext e5).ext e6, lp.ok, (hp4.ext B4 e5).ext B5 e6, hz6, hq, g6, by rw [c6]; exact m5, ?_, ?_⟩, ?_⟩
      · refine (hperm.map _).trans ?_
        rw [hk]
        unfold mapC
        rw [List.map_map]
        exact .refl _
      · exact (ne_of_none (e5 _ _ nzb hz4) nq).symm
      · rw [c6, w1]
        omega
    clear hz4 hp4 hm4 e4 B4 H4 lp
    rintro σ H4 ⟨B4, e4, cA, ks, rfl, hD, hgap⟩
    -- two odd things
    refine ⟨sz 0, fun e1 n1 => ⟨sz 0, fun t1 n2 => ⟨_, rfl, sz 1, fun lp n3 => ⟨_, rfl, sz 9, fun O nO => ?_⟩⟩⟩⟩
    have q1 := same_upd (o := .lst []) n1
    have q2 := same_upd (o := .tup []) n2
    have q3 := same_upd (o := .lst [.ref p]) n3
    have q4 := same_upd (o := .lst [.non, .int 7, .bl true, .str "events a b", .ref e1, .ref t1, .ref lp, .str "plan", .ref m]) nO
    have q14 := Same.trans q1 (Same.trans q2 (Same.trans q3 q4))
    have b1 : e1 ≠ b := (B4.ne n1).symm
    have b2 : t1 ≠ b := ((B4.new n1).ne n2).symm
    have b3 : lp ≠ b := (((B4.new n1).new n2).ne n3).symm
    have bO : O ≠ b := ((((B4.new n1).new n2).new n3).ne nO).symm
    have z1 := q4 _ _ (q3 _ _ (q2 _ _ (upd_same (H := H4) (a := e1) (o := .lst []))))
    have z2 := q4 _ _ (q3 _ _ (upd_same (H := upd H4 e1 (.lst [])) (a := t1) (o := .tup [])))
    have z3 := q4 _ _ (upd_same (H := upd (upd H4 e1 (.lst [])) t1 (.tup [])) (a := lp) (o := .lst [.ref p]))
    have zO := upd_same (H := upd (upd (upd H4 e1 (.lst [])) t1 (.tup [])) lp (.lst [.ref p])) (a := O) (o := .lst [.non, .int 7, .bl true, .str "events a b", .ref e1, .ref t1, .ref lp, .str "plan", .ref m])
    have B5 := B4.same q14
    have e5 := e4.trans (same_ext q14)
    have hD5 := hD.ext B4 (same_ext q14)
    revert z1 z2 z3 zO B5 e5 hD5
    show _ → _ → _ → _ → _ → _ → _ → _
    generalize (upd (upd (upd (upd H4 e1 (.lst [])) t1 (.tup [])) lp (.lst [.ref p])) O (.lst [.non, .int 7, .bl true, .str "events a b", .ref e1, .ref t1, .ref lp, .str "plan", .ref m])) = H5
    intro z1 z2 z3 zO B5 e5 hD5
    clear q1 q2 q3 q4 q14 hD e4 B4 n1 n2 n3 nO
    refine ⟨fun σ H' => Box H' b 1100 ∧ Pu.Ext b H H' ∧ ∃ odd second, σ = RT b m p zA (some (.ref cA)) (some (.ref O)) (some odd) (some second) none none none none ∧ Drawn K a.C b H' m p zA cA d ks ∧ OddV b H' odd ∧ OddV b H' second ∧ second ≠ .non, ?_, ?_⟩
    · refine ⟨_, rfl, _, rfl, b, 9, _, rfl, by decide, by decide, by decide, B5, fun d1 H6 f1 f2 B6 e6 => ?_⟩
      obtain ⟨v1, hv1, hm1⟩ := pickN (xs := oddL e1 t1 lp m) f1 (by show d1 < 9; exact f2)
      refine ⟨O, _, _, _, rfl, rfl, .inl (.inl (e6 _ _ bO zO)), hv1, ?_⟩
      refine ⟨_, rfl, _, rfl, b, 8, _, rfl, by decide, by decide, by decide, B6, fun d2 H7 f3 f4 B7 e7 => .inl ⟨_, _, rfl, rfl, ?_⟩⟩
      obtain ⟨k2, rfl⟩ := Int.eq_ofNat_of_zero_le f3
      obtain ⟨v2, hv2, hm2⟩ := pickN (xs := (oddL e1 t1 lp m).tail) f3 (by show (k2 : Int) < 8; exact f4)
      have e67 := e6.trans e7
      have hat : atI (oddL e1 t1 lp m) (1 + (k2 : Int)) = some v2 := by
        rw [show (1 : Int) + (k2 : Int) = ((k2 + 1 : Nat) : Int) by omega]
        refine atI_nat ?_
        have hk2 : k2 < (oddL e1 t1 lp m).tail.length := by show k2 < 8; omega
        have h2 := atI_nat (xs := (oddL e1 t1 lp m).tail) (List.getElem?_eq_getElem hk2)
        rw [hv2] at h2
        show (oddL e1 t1 lp m).tail[k2]? = _
        rw [List.getElem?_eq_getElem hk2]
        exact h2.symm
      refine ⟨O, _, _, _, rfl, rfl, .inl (.inl (e67 _ _ bO zO)), hat, _, _, rfl, ?_⟩
      have hmb : m ≠ b ∧ ∃ xs, H5 m = some (.lst xs) := by
        obtain ⟨e, t, c, ts, h1, _, _, _, _, h6, _⟩ := hD5.hm
        exact ⟨h6, _, h1⟩
      have odd : ∀ v ∈ (oddL e1 t1 lp m).tail, OddV b H7 v ∧ v ≠ .non := by
        intro v hv
        have hv : v ∈ [V.int 7, .bl true, .str "events a b", .ref e1, .ref t1, .ref lp, .str "plan", .ref m] := hv
        simp only [List.mem_cons, List.not_mem_nil, or_false] at hv
        rcases hv with rfl | rfl | rfl | rfl | rfl | rfl | rfl | rfl
        · exact ⟨.inr (.inl ⟨_, rfl⟩), fun z => nomatch z⟩
        · exact ⟨.inr (.inr (.inl ⟨_, rfl⟩)), fun z => nomatch z⟩
        · exact ⟨.inr (.inr (.inr (.inl ⟨_, rfl⟩))), fun z => nomatch z⟩
        · exact ⟨.inr (.inr (.inr (.inr (.inl ⟨_, _, rfl, b1, e67 _ _ b1 z1⟩)))), fun z => nomatch z⟩
        · exact ⟨.inr (.inr (.inr (.inr (.inr ⟨_, _, rfl, b2, e67 _ _ b2 z2⟩)))), fun z => nomatch z⟩
        · exact ⟨.inr (.inr (.inr (.inr (.inl ⟨_, _, rfl, b3, e67 _ _ b3 z3⟩)))), fun z => nomatch z⟩
        · exact ⟨.inr (.inr (.inr (.inl ⟨_, rfl⟩))), fun z => nomatch z⟩
        · obtain ⟨xs, hx⟩ := hmb.2
          exact ⟨.inr (.inr (.inr (.inr (.inl ⟨_, _, rfl, hmb.1, e67 _ _ hmb.1 hx⟩)))), fun z => nomatch z⟩
      have hm1 : v1 ∈ V.non :: (oddL e1 t1 lp m).tail := hm1
      refine ⟨B7.mono (by decide), e5.trans e67, v1, v2, rfl, (hD5.ext B5 e6).ext B6 e7, ?_, (odd v2 hm2).1, (odd v2 hm2).2⟩
      rcases List.mem_cons.mp hm1 with rfl | h
      · exact .inl rfl
      · exact (odd v1 h).1
    clear zO z1 z2 z3 b1 b2 b3 e5 B5 hD5 H5
    rintro σ H5 ⟨B5, e5, odd, second, rfl, hD5, hodd, hsec, hsn⟩
    -- a bad one
    have wl0 : ∀ e : Addr, Walk (Itl K e) d.evs.length (fun H => SqL K H e (d.evs.map V.str)) (YAt (d.evs.map V.str)) := fun e => by
      have wl := walk_list (K := K) (a := e) (xs := d.evs.map V.str)
      rw [List.length_map] at wl
      exact wl
    have hz8 : d.evs.length < sizeLine := Nat.lt_of_lt_of_le (by omega) (sz 100)
    refine ⟨fun σ H' => Box H' b 1200 ∧ Pu.Ext b H H' ∧ ∃ bad, σ = RT b m p zA (some (.ref cA)) (some (.ref O)) (some odd) (some second) (some bad) none none none ∧ Drawn K a.C b H' m p zA cA d ks ∧ OddV b H' odd ∧ OddV b H' second ∧ BadV b d H' bad, ?_, ?_⟩
    · refine ⟨sz 0, fun e2 n1 => ?_⟩
      have q1 := same_upd (o := .lst []) n1
      have b1 : e2 ≠ b := (B5.ne n1).symm
      have z1 := upd_same (H := H5) (a := e2) (o := .lst [])
      have B6 := B5.same q1
      have hD6 := hD5.ext B5 (same_ext q1)
      revert q1 z1 B6 hD6
      generalize upd H5 e2 (.lst []) = H6
      intro q1 z1 B6 hD6
      obtain ⟨ee, t, c, ts, h1, h2, h3, h4, h5, _⟩ := id hD6.hm
      refine ⟨_, rfl, m, _, ((0 : Nat) : Int), _, rfl, rfl, .inl (.inl h1), atI_nat rfl, ee, rfl, ⟨_, .inl (.inl h2)⟩, fun D hD => lc_const (K := K) (-1) (wl0 ee) hD (fun H' s => .inl (.inl (s _ _ h2))) hz8 (fun _ => rfl) (fun x hx H' N hN => ⟨_, rfl, _, rfl, sz 2, hN⟩) (fun ps H7 s7 hD7 hps => ?_)⟩
      refine ⟨D, ps, _, rfl, .inl (.inl hD7), hps, fun nd hnd => ?_⟩
      rw [merge_self' (mapC_keys hD6.ok.evs.nd _)]
      have q2 := same_upd (o := .dK (mapC d.evs fun _ => -1)) hnd
      have z2 := upd_same (H := H7) (a := nd) (o := .dK (mapC d.evs fun _ => -1))
      have B7 := B6.same (Same.trans s7 q2)
      have b2 : nd ≠ b := (((B6.same s7)).ne hnd).symm
      have hD8 := hD6.ext B6 (same_ext (Same.trans s7 q2))
      have s58 := Same.trans q1 (Same.trans s7 q2)
      have z1 := (Same.trans s7 q2) _ _ z1
      revert q2 z2 B7 hD8 s58 z1
      generalize upd H7 nd (.dK (mapC d.evs fun _ => -1)) = H8
      intro q2 z2 B7 hD8 s58 z1
      refine ⟨_, rfl, cA, ks, rfl, hD8.hc, fun kl nkl => ⟨sz 7, fun L nL => ⟨_, rfl, b, 7, _, rfl, by decide, by decide, by decide, (B7.new nkl).new nL, fun d1 H9 f1 f2 B9 e9 => ?_⟩⟩⟩
      have q3 := same_upd (o := .lst (ks.map fun kv => kV kv.1)) nkl
      have b3 : kl ≠ b := (B7.ne nkl).symm
      have bL : L ≠ b := ((B7.new nkl).ne nL).symm
      have q4 := same_upd (o := .lst [.non, .int 7, .ref e2, .str "counts", .bl true, .ref nd, .ref kl]) nL
      have z3 := q4 _ _ (upd_same (H := H8) (a := kl) (o := .lst (ks.map fun kv => kV kv.1)))
      have e89 : Pu.Ext b H8 H9 := (same_ext (Same.trans q3 q4)).trans e9
      obtain ⟨v, hv, hmm⟩ := pickN (xs := [V.non, .int 7, .ref e2, .str "counts", .bl true, .ref nd, .ref kl]) f1 (by show d1 < 7; exact f2)
      refine ⟨L, _, _, _, rfl, rfl, .inl (.inl (e9 _ _ bL upd_same)), hv, B9.mono (by decide), (e5.trans (same_ext s58)).trans e89, v, rfl, hD8.ext B7 e89, (hodd.ext (same_ext s58)).ext e89, (hsec.ext (same_ext s58)).ext e89, ?_⟩
      simp only [List.mem_cons, List.not_mem_nil, or_false] at hmm
      rcases hmm with rfl | rfl | rfl | rfl | rfl | rfl | rfl
      · exact .inl (.inl rfl)
      · exact .inl (.inr (.inl ⟨_, rfl⟩))
      · exact .inl (.inr (.inr (.inr (.inr (.inl ⟨_, _, rfl, b1, e89 _ _ b1 z1⟩)))))
      · exact .inl (.inr (.inr (.inr (.inl ⟨_, rfl⟩))))
      · exact .inl (.inr (.inr (.inl ⟨_, rfl⟩)))
      · exact .inr ⟨nd, rfl, b2, e89 _ _ b2 z2⟩
      · exact .inl (.inr (.inr (.inr (.inr (.inl ⟨_, _, rfl, b3, e9 _ _ b3 z3⟩)))))
    clear B5 e5 hD5 hodd hsec H5
    rintro σ H5 ⟨B5, e5, bad, rfl, hD5, hodd, hsec, hbad⟩
    -- more than there can be
    refine ⟨fun σ H' => Same H5 H' ∧ ∃ oA, σ = RT b m p zA (some (.ref cA)) (some (.ref O)) (some odd) (some second) (some bad) (some (.ref oA)) none none ∧ H' oA = some (.dK (mapC d.evs fun _ => 100000000000000000000000000000)), ?_, ?_⟩
    · obtain ⟨ee, t, c, ts, h1, h2, h3, h4, h5, _⟩ := id hD5.hm
      refine ⟨_, rfl, m, _, ((0 : Nat) : Int), _, rfl, rfl, .inl (.inl h1), atI_nat rfl, ee, rfl, ⟨_, .inl (.inl h2)⟩, fun D hD => lc_const (K := K) 100000000000000000000000000000 (wl0 ee) hD (fun H' s => .inl (.inl (s _ _ h2))) hz8 (fun _ => rfl) (fun x hx H' N hN => ⟨_, rfl, _, _, rfl, rfl, ⟨by decide, by decide, by decide⟩, sz 2, hN⟩) (fun ps H7 s7 hD7 hps => ?_)⟩
      refine ⟨D, ps, _, rfl, .inl (.inl hD7), hps, fun nd hnd => ?_⟩
      rw [merge_self' (mapC_keys hD5.ok.evs.nd _)]
      exact ⟨Same.trans s7 (same_upd hnd), nd, rfl, upd_same⟩
    rintro σ H6 ⟨s6, oA, rfl, ho⟩
    have B6 := B5.same s6
    have e6 := e5.trans (same_ext s6)
    have hodd6 := hodd.ext (same_ext s6)
    have hsec6 := hsec.ext (same_ext s6)
    have hbad6 := hbad.ext (same_ext s6)
    have hd6 : Had K a H6 p cA zA oA d ks := ⟨hD5.hp.same s6, hD5.ok, s6 _ _ hD5.hc, hD5.g, hD5.mo, s6 _ _ hD5.hz, ho, hD5.ne, hD5.hk⟩
    obtain ⟨gz, ez, mz⟩ := hd6.gz
    have go := hd6.go
    clear hz8 wl0 s6 ho hD5 hodd hsec hbad B5 e5 H5
    -- the seven answers
    refine ⟨fun σ H' => Same H6 H' ∧ ∃ (G : Addr) (gs : List V), σ = RT b m p zA (some (.ref cA)) (some (.ref O)) (some odd) (some second) (some bad) (some (.ref oA)) none (some (.ref G)) ∧ H' G = some (.lst gs) ∧ gs.length = 7 ∧ (∀ i x, gs[i]? = some x → ∃ l v, x = .ref l ∧ H' l = some (.lst [.str "told", v]) ∧ ToldV d (cntOf ks) (fun _ => 0) i v H'), ?_, ?_⟩
    · refine ⟨7, rfl, by decide, by decide, fun D hD => lc_rngO (n := 7) hD (by decide) (SevenR d (cntOf ks) (fun _ => 0) D) seven_same (fun y k H' o h _ _ _ => seven_put y k H' o h) (fun _ => rfl) (fun k hk H' s' hys N hN => ?_) (fun ys H' s' hy hl hR => ?_)⟩
      · obtain ⟨ys, hy, hyl, hyR⟩ := hys
        have hd7 := hd6.same s'
        refine ⟨_, rfl, _, rfl, _, rfl, _, rfl, nil_of (ref_told (by omega) hd7.hp hd6.ok hd7.hc hd6.g hd6.hm hd7.hz gz fun v l H7 s7 nl hl t => hN _ _ s7 ?_)⟩
        rw [ez] at t
        exact seven_of hy hyl hyR s7 nl hl t
      · refine ⟨s', D, ys, rfl, hy, hl, fun i x hx => ?_⟩
        obtain ⟨l, v, e, _, h1, h2, _⟩ := hR i x hx
        exact ⟨l, v, e, h1, h2⟩
    rintro σ H7 ⟨s7, G0, gs0, rfl, hG0, hgl0, hgs0⟩
    -- two more
    refine ⟨fun σ H' => Same H6 H' ∧ ∃ (G : Addr) (gs : List V), σ = RT b m p zA (some (.ref cA)) (some (.ref O)) (some odd) (some second) (some bad) (some (.ref oA)) none (some (.ref G)) ∧ H' G = some (.lst gs) ∧ gs.length = 9 ∧ Good d (cntOf ks) (fun _ => 0) H' gs ∧ ∀ x ∈ gs, ∃ l v, x = .ref l ∧ H' l = some (.lst [.str "told", v]), ?_, ?_⟩
    · have hd7 := hd6.same s7
      refine ⟨_, rfl, _, rfl, sz 0, fun r0 nr0 => ⟨_, rfl, ?_⟩⟩
      have q0 := same_upd (o := .lst []) nr0
      have hd8 := hd7.same q0
      refine nil_of (ref_behind0 hd8.hp hd6.ok upd_same (.inr (.inr ⟨cA, ks, rfl, hd8.hc, hd6.g, hd6.hm, fun x1 l1 H9 s9 nl1 hl1 => ?_⟩)))
      have hd9 := hd8.same s9
      refine ⟨_, rfl, _, rfl, lastc (ref_run_to hd9.hp hd6.ok hd9.hc hd6.g hd6.hm (.inr (.inr ⟨rfl, by omega, fun x2 l2 H10 s10 nl2 hl2 => ⟨sz 2, fun R nR => .inr (.inr ⟨G0, R, gs0, _, rfl, rfl, ?_, upd_same, sz _ (by show gs0.length + 2 ≤ 100000; omega), fun R3 nR3 => ?_⟩)⟩⟩)))⟩
      · exact same_upd nR _ _ (s10 _ _ (s9 _ _ (q0 _ _ hG0)))
      have q1 := same_upd (o := .lst [.ref l1, .ref l2]) nR
      have q2 := same_upd (o := .lst (gs0 ++ [.ref l1, .ref l2])) nR3
      have q12 := Same.trans q1 q2
      have q7 := Same.trans q0 (Same.trans s9 (Same.trans s10 q12))
      refine ⟨Same.trans s7 q7, R3, gs0 ++ [.ref l1, .ref l2], rfl, upd_same, by rw [List.length_append, hgl0]; rfl, fun i x hx hi => ?_, fun x hx => ?_⟩
      · rw [List.getElem?_append_left (by omega)] at hx
        obtain ⟨l, v, e, h1, h2⟩ := hgs0 i x hx
        exact ⟨l, v, e, q7 _ _ h1, toldV_same h2 q7⟩
      · rcases List.mem_append.mp hx with h | h
        · obtain ⟨i, hi⟩ := List.getElem?_of_mem h
          obtain ⟨l, v, e, h1, h2⟩ := hgs0 i x hi
          exact ⟨l, v, e, q7 _ _ h1⟩
        · simp only [List.mem_cons, List.not_mem_nil, or_false] at h
          rcases h with rfl | rfl
          · exact ⟨l1, _, rfl, q12 _ _ (s10 _ _ hl1)⟩
          · exact ⟨l2, _, rfl, q12 _ _ hl2⟩
    clear hG0 hgl0 hgs0 s7 gs0 G0 H7
    rintro σ H7 ⟨s7, G, gs, rfl, hG, hgl, hgood, hall⟩
    -- none of them was refused
    refine ⟨fun σ H' => Same H7 H' ∧ σ = RT b m p zA (some (.ref cA)) (some (.ref O)) (some odd) (some second) (some bad) (some (.ref oA)) none (some (.ref G)), ?_, ?_⟩
    · have wg : Walk (Itl K G) gs.length (fun H => SqL K H G gs) (YAt (gs.map fun x => x)) := by rw [show gs.map (fun x => x) = gs from List.map_id' gs]; exact walk_list (K := K) (a := G) (xs := gs)
      refine ⟨_, rfl, G, rfl, ⟨_, .inl (.inl hG)⟩, fun D hD => lc_fm (v := fun x => x) (xs := gs) wg hD (fun H' s => .inl (.inl (s _ _ hG))) (Nat.lt_of_lt_of_le (by omega) (sz 100)) (fun _ => false) (fun x => x) (fun _ => rfl) (fun x hx H' s N M _ hM => ?_) (fun H' s hD' => ?_)⟩
      · obtain ⟨l, v, rfl, hl⟩ := hall x hx
        exact ⟨_, rfl, l, _, ((0 : Nat) : Int), _, rfl, rfl, .inl (.inl (s _ _ hl)), atI_nat rfl, rfl, _, rfl, hM rfl _ (Same.refl _)⟩
      · have hD' : H' D = some (.lst []) := by
          rw [hD', List.filter_eq_nil_iff.mpr (fun _ _ => by decide)]
          rfl
        exact ⟨sz 0, fun E nE => ⟨1, true, by decide, ⟨D, E, rfl, rfl, fun _ => rfl, .inl ⟨[], [], [], .inl (.inl (same_upd nE _ _ hD')), .inl (.inl upd_same), .nil, rfl⟩⟩, _, rfl, Same.trans s (same_upd nE), rfl⟩⟩
    rintro σ H8 ⟨s8, rfl⟩
    -- each way is refused for its plan
    refine ⟨fun σ H' => Same H8 H' ∧ ∃ v10 : Option V, σ = RT b m p zA (some (.ref cA)) (some (.ref O)) (some odd) (some second) (some bad) (some (.ref oA)) v10 (some (.ref G)), ?_, ?_⟩
    · refine ⟨9, rfl, by decide, by decide, for_range (n := 9) (fun i σ H' => Same H8 H' ∧ ∃ v10 : Option V, σ = RT b m p zA (some (.ref cA)) (some (.ref O)) (some odd) (some second) (some bad) (some (.ref oA)) v10 (some (.ref G))) ⟨Same.refl _, none, rfl⟩ (fun i σ H' hi pv => ?_) (fun σ H' pv => pv)⟩
      obtain ⟨s9, v10, rfl⟩ := pv
      rw [Int.zero_add]
      have s69 := Same.trans s7 (Same.trans s8 s9)
      have ho9 := hodd6.ext (same_ext s69)
      refine ⟨_, rfl, _, rfl, _, rfl, _, rfl, nil_of (ref_plan (by omega) (fun H9 s10 => (ho9.ext (same_ext s10)).noPlan KP) fun l H9 s10 nl hl => ⟨_, rfl, sz 2, fun l2 nl2 => ⟨1, true, by decide, pair_eq (same_upd nl2 _ _ hl) upd_same ho9.any, _, rfl, Same.trans s9 (Same.trans s10 (same_upd nl2)), _, rfl⟩⟩)⟩
    rintro σ H9 ⟨s9, v10, rfl⟩
    have s79 := Same.trans s8 s9
    have s69 := Same.trans s7 s79
    refine ⟨_, rfl, _, rfl, _, rfl, _, rfl, _, rfl, _, rfl, sz 3, fun L1 n1 => ⟨_, rfl, _, rfl, _, rfl, sz 3, fun L2 n2 => nil_of ?_⟩⟩
    have q1 := same_upd (o := .lst [.ref cA, .ref zA, .ref oA]) n1
    have q2 := same_upd (o := .lst [bad, second, .ref G]) n2
    have q12 := Same.trans q1 q2
    have s7L := Same.trans s79 q12
    have s6L := Same.trans s7 s7L
    exact ⟨b, m, p, L1, L2, cA, zA, oA, G, d, ks, bad, second, gs, rfl, q2 _ _ upd_same, upd_same, hd6.same s6L, hbad6.ext (same_ext s6L), hsec6.ext (same_ext s6L), hsn, s7L _ _ hG, hgl, hgood.same s7L, fun H' s' => q H' (e6.trans (same_ext (Same.trans s6L s')))⟩
end
end Pk

set_option Elab.async false
set_option linter.all false
set_option maxRecDepth 100000
set_option maxHeartbeats 4000000
namespace Pk
open PySem PySem.Spec PyProof.Rows L2 Pu
open PySem.Er (ErrTxt)
abbrev s_law : Stmt := topS 78
theorem sc_law : FnScope ["_law_script", "_law_k"] ["_law_script"] (defScope s_law) := ⟨rfl, rfl, rfl, by decide +kernel, rfl, by decide +kernel, by decide +kernel⟩

section
variable {P : Program} {w : World} {K : PySem.W.Frag} {mg : Str → Option Value} {base : Heap}
/-! ### the law -/
def spLaw (K : PySem.W.Frag) : Sp := fun vs H Q _ => ∃ (a : Addr) (ns : List Int), vs = [.ref a] ∧ SqL K H a (ns.map V.int) ∧ ns.length ≤ 63 ∧ ∀ H', Q (.bl true) H'
theorem seq_extP {H H' : Hp} {a b : Addr} {xs : List V} (h : SqL K H a xs) (hb : H b = none) (e : Pu.Ext b H H') : SqL K H' a xs := by
  rcases h with (h | ⟨o, h⟩) | h
  · exact .inl (.inl (e _ _ (ne_of_none h hb) h))
  · exact .inl (.inr ⟨o, e _ _ (ne_of_none h hb) h⟩)
  · exact .inr h

theorem ok_law {f : Addr} {fd : FuncData} (F : Fun K "law" "law" s_law f fd) (T : Txt mg) (claw_cell : Cal P w K mg base 1 "_law_cell" (Pu.spCell K) []) (claw_box : Cal P w K mg base 1 "_law_box" spBox []) (claw_right : Cal P w K mg base 13 "_law_right" spRight []) :
    FnOk P w K mg base CX0 14 f fd ["_law_script"] (spLaw K) := by
  have nd := sc_law.nd
  refine F.ok sc_law (fun vs H Q E h => ?_) (fun cdv A outer s H vs Q E hr h => ?_)
  · obtain ⟨_, _, rfl, _⟩ := h
    rfl
  · obtain ⟨a, ns, rfl, hS, hn, q⟩ := h
    refine ⟨_, (pss_cons (ps_for PassesOwn.never rfl (pi_range1 rfl T.m_range (pa_cons (pe_callB (call_max2 rfl) (by rfl) T.m_max PyProof.Rows.boot_max (pa_cons pe_int (pa_cons (pe_callB (call_min2 rfl) (by rfl) T.m_min PyProof.Rows.boot_min (pa_cons pe_int (pa_cons (pe_callB (lenK K) (by rfl) T.m_len PySem.boot_len (pa_cons (pv 0) pa_nil)) pa_nil))) pa_nil))) pa_nil)) (pg_name (i := 1) nd rfl (Or.inl rfl))
      (pss_one (ps_if (pt_not (pt_val (pe_c claw_right hr (by decide) rfl (pa_cons (pe_c claw_box hr (by decide) rfl (pa_cons (pe_c claw_cell hr (by decide) rfl (pa_cons (pv 0) (pa_cons (pv 1) pa_nil))) pa_nil)) pa_nil))))
      (pss_one (ps_ret pe_bl)) pss_nil)))
      (pss_one (ps_ret pe_bl))), ?_⟩
    refine ⟨_, rfl, .inl ⟨a, _, rfl, .inl hS, _, _, rfl, _, _, rfl, _, rfl, ?_, ?_, ?_⟩⟩
    · split <;> split <;> omega
    · split <;> split <;> omega
    refine for_range (fun i σ H' => SqL K H' a (ns.map V.int) ∧ ∃ v1, σ = [some (.ref a), v1]) ⟨hS, _, rfl⟩ (fun i σ H1 hi h => ?_) (fun σ H1 h => q _)
    obtain ⟨hS1, v1, rfl⟩ := h
    refine ⟨_, rfl, _, rfl, a, ns, i, by rw [Int.zero_add]; rfl, hS1, fun x => ⟨x, rfl, fun p H2 np B2 e2 => ?_⟩⟩
    have E2 : Pu.Ext p H1 H2 := fun c o hc h => by rw [e2 c hc]; exact h
    exact ⟨p, rfl, B2, fun H3 E3 => ⟨_, rfl, seq_extP hS1 np (E2.trans E3), _, rfl⟩⟩
end
end Pk

set_option Elab.async false
set_option linter.all false
set_option maxRecDepth 100000
set_option maxHeartbeats 4000000
namespace Pk
open PySem PySem.Spec PyProof.Rows L2 Pu
open PySem.Er (ErrTxt)
theorem all_mk {l : PySem.W.OpenLaw} {w : World} {K : PySem.W.Frag} {h : Heap} {mg : Str → Option Value} {fa f_is_integer f_is_count f_is_name f_need_events f_need_event f_need_tie f_need_ties f_need_limits f_ringed f_need_plan f_is_counts f_need_counts f_barred f_is_moment f_need_moment f_stepped f_come f_came f_need_two_counts f_higher f_lower f_beginning f_need_run f_waits f_is_ready f_next_towards f_way_between f__law_cell f__law_box f__law_take f__law_names f__law_shuffled f__law_plan f__law_made f__law_broken f__law_zero f__law_with f__law_run f__law_turned f__law_called f__law_refused f__law_rest_right f__law_right f_law f_behind kD_behind f_run_to kD_run_to C f_Plan_events f_Plan_ties f_Plan_limits f_Plan___len__ f_Plan___contains__ f_init kD_init T_init U_init E_InvalidPlan fe_InvalidPlan N_InvalidPlan E_InvalidCounts fe_InvalidCounts N_InvalidCounts E_InvalidRun fe_InvalidRun N_InvalidRun E_NotMoment fe_NotMoment N_NotMoment E_NotBehind fe_NotBehind N_NotBehind E_Barred fe_Barred N_Barred E_TooLong fe_TooLong N_TooLong : Addr} {t_LETTERS t_LONGEST_NAME t_BILLION t_MOST_EVENTS t_MOST_TIES t_LONGEST_RUN : Tok} (X : K.In h) (G : h.Ns mainGlobals mg) (hfa : mg "law" = some (.ref fa))
    {od_is_integer an_is_integer : Option Addr} {sl_is_integer : Array (Option Value)} {oc_is_integer kV_is_integer dc_is_integer pm_is_integer cd_is_integer ct_is_integer : Value}
    {od_is_count an_is_count : Option Addr} {sl_is_count : Array (Option Value)} {oc_is_count kV_is_count dc_is_count pm_is_count cd_is_count ct_is_count : Value}
    {od_is_name an_is_name : Option Addr} {sl_is_name : Array (Option Value)} {oc_is_name kV_is_name dc_is_name pm_is_name cd_is_name ct_is_name : Value}
    {od_need_events an_need_events : Option Addr} {sl_need_events : Array (Option Value)} {oc_need_events kV_need_events dc_need_events pm_need_events cd_need_events ct_need_events : Value}
    {od_need_event an_need_event : Option Addr} {sl_need_event : Array (Option Value)} {oc_need_event kV_need_event dc_need_event pm_need_event cd_need_event ct_need_event : Value}
    {od_need_tie an_need_tie : Option Addr} {sl_need_tie : Array (Option Value)} {oc_need_tie kV_need_tie dc_need_tie pm_need_tie cd_need_tie ct_need_tie : Value}
    {od_need_ties an_need_ties : Option Addr} {sl_need_ties : Array (Option Value)} {oc_need_ties kV_need_ties dc_need_ties pm_need_ties cd_need_ties ct_need_ties : Value}
    {od_need_limits an_need_limits : Option Addr} {sl_need_limits : Array (Option Value)} {oc_need_limits kV_need_limits dc_need_limits pm_need_limits cd_need_limits ct_need_limits : Value}
    {od_ringed an_ringed : Option Addr} {sl_ringed : Array (Option Value)} {oc_ringed kV_ringed dc_ringed pm_ringed cd_ringed ct_ringed : Value}
    {od_need_plan an_need_plan : Option Addr} {sl_need_plan : Array (Option Value)} {oc_need_plan kV_need_plan dc_need_plan pm_need_plan cd_need_plan ct_need_plan : Value}
    {od_is_counts an_is_counts : Option Addr} {sl_is_counts : Array (Option Value)} {oc_is_counts kV_is_counts dc_is_counts pm_is_counts cd_is_counts ct_is_counts : Value}
    {od_need_counts an_need_counts : Option Addr} {sl_need_counts : Array (Option Value)} {oc_need_counts kV_need_counts dc_need_counts pm_need_counts cd_need_counts ct_need_counts : Value}
    {od_barred an_barred : Option Addr} {sl_barred : Array (Option Value)} {oc_barred kV_barred dc_barred pm_barred cd_barred ct_barred : Value}
    {od_is_moment an_is_moment : Option Addr} {sl_is_moment : Array (Option Value)} {oc_is_moment kV_is_moment dc_is_moment pm_is_moment cd_is_moment ct_is_moment : Value}
    {od_need_moment an_need_moment : Option Addr} {sl_need_moment : Array (Option Value)} {oc_need_moment kV_need_moment dc_need_moment pm_need_moment cd_need_moment ct_need_moment : Value}
    {od_stepped an_stepped : Option Addr} {sl_stepped : Array (Option Value)} {oc_stepped kV_stepped dc_stepped pm_stepped cd_stepped ct_stepped : Value}
    {od_come an_come : Option Addr} {sl_come : Array (Option Value)} {oc_come kV_come dc_come pm_come cd_come ct_come : Value}
    {od_came an_came : Option Addr} {sl_came : Array (Option Value)} {oc_came kV_came dc_came pm_came cd_came ct_came : Value}
    {od_need_two_counts an_need_two_counts : Option Addr} {sl_need_two_counts : Array (Option Value)} {oc_need_two_counts kV_need_two_counts dc_need_two_counts pm_need_two_counts cd_need_two_counts ct_need_two_counts : Value}
    {od_higher an_higher : Option Addr} {sl_higher : Array (Option Value)} {oc_higher kV_higher dc_higher pm_higher cd_higher ct_higher : Value}
    {od_lower an_lower : Option Addr} {sl_lower : Array (Option Value)} {oc_lower kV_lower dc_lower pm_lower cd_lower ct_lower : Value}
    {od_beginning an_beginning : Option Addr} {sl_beginning : Array (Option Value)} {oc_beginning kV_beginning dc_beginning pm_beginning cd_beginning ct_beginning : Value}
    {od_need_run an_need_run : Option Addr} {sl_need_run : Array (Option Value)} {oc_need_run kV_need_run dc_need_run pm_need_run cd_need_run ct_need_run : Value}
    {od_waits an_waits : Option Addr} {sl_waits : Array (Option Value)} {oc_waits kV_waits dc_waits pm_waits cd_waits ct_waits : Value}
    {od_is_ready an_is_ready : Option Addr} {sl_is_ready : Array (Option Value)} {oc_is_ready kV_is_ready dc_is_ready pm_is_ready cd_is_ready ct_is_ready : Value}
    {od_next_towards an_next_towards : Option Addr} {sl_next_towards : Array (Option Value)} {oc_next_towards kV_next_towards dc_next_towards pm_next_towards cd_next_towards ct_next_towards : Value}
    {od_way_between an_way_between : Option Addr} {sl_way_between : Array (Option Value)} {oc_way_between kV_way_between dc_way_between pm_way_between cd_way_between ct_way_between : Value}
    {od__law_cell an__law_cell : Option Addr} {sl__law_cell : Array (Option Value)} {oc__law_cell kV__law_cell dc__law_cell pm__law_cell cd__law_cell ct__law_cell : Value}
    {od__law_box an__law_box : Option Addr} {sl__law_box : Array (Option Value)} {oc__law_box kV__law_box dc__law_box pm__law_box cd__law_box ct__law_box : Value}
    {od__law_take an__law_take : Option Addr} {sl__law_take : Array (Option Value)} {oc__law_take kV__law_take dc__law_take pm__law_take cd__law_take ct__law_take : Value}
    {od__law_names an__law_names : Option Addr} {sl__law_names : Array (Option Value)} {oc__law_names kV__law_names dc__law_names pm__law_names cd__law_names ct__law_names : Value}
    {od__law_shuffled an__law_shuffled : Option Addr} {sl__law_shuffled : Array (Option Value)} {oc__law_shuffled kV__law_shuffled dc__law_shuffled pm__law_shuffled cd__law_shuffled ct__law_shuffled : Value}
    {od__law_plan an__law_plan : Option Addr} {sl__law_plan : Array (Option Value)} {oc__law_plan kV__law_plan dc__law_plan pm__law_plan cd__law_plan ct__law_plan : Value}
    {od__law_made an__law_made : Option Addr} {sl__law_made : Array (Option Value)} {oc__law_made kV__law_made dc__law_made pm__law_made cd__law_made ct__law_made : Value}
    {od__law_broken an__law_broken : Option Addr} {sl__law_broken : Array (Option Value)} {oc__law_broken kV__law_broken dc__law_broken pm__law_broken cd__law_broken ct__law_broken : Value}
    {od__law_zero an__law_zero : Option Addr} {sl__law_zero : Array (Option Value)} {oc__law_zero kV__law_zero dc__law_zero pm__law_zero cd__law_zero ct__law_zero : Value}
    {od__law_with an__law_with : Option Addr} {sl__law_with : Array (Option Value)} {oc__law_with kV__law_with dc__law_with pm__law_with cd__law_with ct__law_with : Value}
    {od__law_run an__law_run : Option Addr} {sl__law_run : Array (Option Value)} {oc__law_run kV__law_run dc__law_run pm__law_run cd__law_run ct__law_run : Value}
    {od__law_turned an__law_turned : Option Addr} {sl__law_turned : Array (Option Value)} {oc__law_turned kV__law_turned dc__law_turned pm__law_turned cd__law_turned ct__law_turned : Value}
    {od__law_called an__law_called : Option Addr} {sl__law_called : Array (Option Value)} {oc__law_called kV__law_called dc__law_called pm__law_called cd__law_called ct__law_called : Value}
    {od__law_refused an__law_refused : Option Addr} {sl__law_refused : Array (Option Value)} {oc__law_refused kV__law_refused dc__law_refused pm__law_refused cd__law_refused ct__law_refused : Value}
    {od__law_rest_right an__law_rest_right : Option Addr} {sl__law_rest_right : Array (Option Value)} {oc__law_rest_right kV__law_rest_right dc__law_rest_right pm__law_rest_right cd__law_rest_right ct__law_rest_right : Value}
    {od__law_right an__law_right : Option Addr} {sl__law_right : Array (Option Value)} {oc__law_right kV__law_right dc__law_right pm__law_right cd__law_right ct__law_right : Value}
    {od_law an_law : Option Addr} {sl_law : Array (Option Value)} {oc_law kV_law dc_law pm_law cd_law ct_law : Value}
    {od_behind an_behind : Option Addr} {sl_behind : Array (Option Value)} {oc_behind dc_behind pm_behind cd_behind ct_behind : Value}
    {od_run_to an_run_to : Option Addr} {sl_run_to : Array (Option Value)} {oc_run_to dc_run_to pm_run_to cd_run_to ct_run_to : Value}
    {od_Plan_events an_Plan_events : Option Addr} {sl_Plan_events : Array (Option Value)} {oc_Plan_events kV_Plan_events dc_Plan_events pm_Plan_events cd_Plan_events ct_Plan_events : Value}
    {od_Plan_ties an_Plan_ties : Option Addr} {sl_Plan_ties : Array (Option Value)} {oc_Plan_ties kV_Plan_ties dc_Plan_ties pm_Plan_ties cd_Plan_ties ct_Plan_ties : Value}
    {od_Plan_limits an_Plan_limits : Option Addr} {sl_Plan_limits : Array (Option Value)} {oc_Plan_limits kV_Plan_limits dc_Plan_limits pm_Plan_limits cd_Plan_limits ct_Plan_limits : Value}
    {od_Plan___len__ an_Plan___len__ : Option Addr} {sl_Plan___len__ : Array (Option Value)} {oc_Plan___len__ kV_Plan___len__ dc_Plan___len__ pm_Plan___len__ cd_Plan___len__ ct_Plan___len__ : Value}
    {od_Plan___contains__ an_Plan___contains__ : Option Addr} {sl_Plan___contains__ : Array (Option Value)} {oc_Plan___contains__ kV_Plan___contains__ dc_Plan___contains__ pm_Plan___contains__ cd_Plan___contains__ ct_Plan___contains__ : Value}
    {od_init an_init : Option Addr} {sl_init : Array (Option Value)} {oc_init dc_init pm_init cd_init ct_init : Value} {ocT : Value} {odT : Option Addr} {slT slU : Array (Option Value)} {odU : Option Addr} {nT nU : Nat}
    {nm_InvalidPlan q_InvalidPlan : Str} {bs_InvalidPlan bm_InvalidPlan : List Value} {sn_InvalidPlan : List Str} {sb_InvalidPlan : List Value} {ab_InvalidPlan : Bool} {co_InvalidPlan : Option Bool} {dd_InvalidPlan : Option Addr} {k0_InvalidPlan k1_InvalidPlan k2_InvalidPlan k3_InvalidPlan k5_InvalidPlan : Option Value} {oc_InvalidPlan pm_InvalidPlan dc_InvalidPlan cd_InvalidPlan ct_InvalidPlan : Value} {od_InvalidPlan an_InvalidPlan : Option Addr} {sl_InvalidPlan : Array (Option Value)} {p1_InvalidPlan p2_InvalidPlan q1_InvalidPlan q2_InvalidPlan q3_InvalidPlan q4_InvalidPlan : Pos}
    {nm_InvalidCounts q_InvalidCounts : Str} {bs_InvalidCounts bm_InvalidCounts : List Value} {sn_InvalidCounts : List Str} {sb_InvalidCounts : List Value} {ab_InvalidCounts : Bool} {co_InvalidCounts : Option Bool} {dd_InvalidCounts : Option Addr} {k0_InvalidCounts k1_InvalidCounts k2_InvalidCounts k3_InvalidCounts k5_InvalidCounts : Option Value} {oc_InvalidCounts pm_InvalidCounts dc_InvalidCounts cd_InvalidCounts ct_InvalidCounts : Value} {od_InvalidCounts an_InvalidCounts : Option Addr} {sl_InvalidCounts : Array (Option Value)} {p1_InvalidCounts p2_InvalidCounts q1_InvalidCounts q2_InvalidCounts q3_InvalidCounts q4_InvalidCounts : Pos}
    {nm_InvalidRun q_InvalidRun : Str} {bs_InvalidRun bm_InvalidRun : List Value} {sn_InvalidRun : List Str} {sb_InvalidRun : List Value} {ab_InvalidRun : Bool} {co_InvalidRun : Option Bool} {dd_InvalidRun : Option Addr} {k0_InvalidRun k1_InvalidRun k2_InvalidRun k3_InvalidRun k5_InvalidRun : Option Value} {oc_InvalidRun pm_InvalidRun dc_InvalidRun cd_InvalidRun ct_InvalidRun : Value} {od_InvalidRun an_InvalidRun : Option Addr} {sl_InvalidRun : Array (Option Value)} {p1_InvalidRun p2_InvalidRun q1_InvalidRun q2_InvalidRun q3_InvalidRun q4_InvalidRun : Pos}
    {nm_NotMoment q_NotMoment : Str} {bs_NotMoment bm_NotMoment : List Value} {sn_NotMoment : List Str} {sb_NotMoment : List Value} {ab_NotMoment : Bool} {co_NotMoment : Option Bool} {dd_NotMoment : Option Addr} {k0_NotMoment k1_NotMoment k2_NotMoment k3_NotMoment k5_NotMoment : Option Value} {oc_NotMoment pm_NotMoment dc_NotMoment cd_NotMoment ct_NotMoment : Value} {od_NotMoment an_NotMoment : Option Addr} {sl_NotMoment : Array (Option Value)} {p1_NotMoment p2_NotMoment q1_NotMoment q2_NotMoment q3_NotMoment q4_NotMoment : Pos}
    {nm_NotBehind q_NotBehind : Str} {bs_NotBehind bm_NotBehind : List Value} {sn_NotBehind : List Str} {sb_NotBehind : List Value} {ab_NotBehind : Bool} {co_NotBehind : Option Bool} {dd_NotBehind : Option Addr} {k0_NotBehind k1_NotBehind k2_NotBehind k3_NotBehind k5_NotBehind : Option Value} {oc_NotBehind pm_NotBehind dc_NotBehind cd_NotBehind ct_NotBehind : Value} {od_NotBehind an_NotBehind : Option Addr} {sl_NotBehind : Array (Option Value)} {p1_NotBehind p2_NotBehind q1_NotBehind q2_NotBehind q3_NotBehind q4_NotBehind : Pos}
    {nm_Barred q_Barred : Str} {bs_Barred bm_Barred : List Value} {sn_Barred : List Str} {sb_Barred : List Value} {ab_Barred : Bool} {co_Barred : Option Bool} {dd_Barred : Option Addr} {k0_Barred k1_Barred k2_Barred k3_Barred k5_Barred : Option Value} {oc_Barred pm_Barred dc_Barred cd_Barred ct_Barred : Value} {od_Barred an_Barred : Option Addr} {sl_Barred : Array (Option Value)} {p1_Barred p2_Barred q1_Barred q2_Barred q3_Barred q4_Barred : Pos}
    {nm_TooLong q_TooLong : Str} {bs_TooLong bm_TooLong : List Value} {sn_TooLong : List Str} {sb_TooLong : List Value} {ab_TooLong : Bool} {co_TooLong : Option Bool} {dd_TooLong : Option Addr} {k0_TooLong k1_TooLong k2_TooLong k3_TooLong k5_TooLong : Option Value} {oc_TooLong pm_TooLong dc_TooLong cd_TooLong ct_TooLong : Value} {od_TooLong an_TooLong : Option Addr} {sl_TooLong : Array (Option Value)} {p1_TooLong p2_TooLong q1_TooLong q2_TooLong q3_TooLong q4_TooLong : Pos}
    (a_is_integer : PySem.W.nsIn K mainGlobals "is_integer" = some (some (.ref f_is_integer)))
    (l_is_integer : K.lookup f_is_integer = some ⟨oc_is_integer, od_is_integer, .func (PySem.W.fnOf "is_integer" "is_integer" (defArgs s_is_integer) (defBody s_is_integer) (defScope s_is_integer) .none kV_is_integer dc_is_integer pm_is_integer an_is_integer cd_is_integer ct_is_integer), sl_is_integer⟩)
    (c_is_integer : PySem.W.codeIn K cd_is_integer "is_integer" = true)
    (k_is_integer : PySem.W.keepIn K (.ref f_is_integer) = true)
    (a_is_count : PySem.W.nsIn K mainGlobals "is_count" = some (some (.ref f_is_count)))
    (l_is_count : K.lookup f_is_count = some ⟨oc_is_count, od_is_count, .func (PySem.W.fnOf "is_count" "is_count" (defArgs s_is_count) (defBody s_is_count) (defScope s_is_count) .none kV_is_count dc_is_count pm_is_count an_is_count cd_is_count ct_is_count), sl_is_count⟩)
    (c_is_count : PySem.W.codeIn K cd_is_count "is_count" = true)
    (k_is_count : PySem.W.keepIn K (.ref f_is_count) = true)
    (a_is_name : PySem.W.nsIn K mainGlobals "is_name" = some (some (.ref f_is_name)))
    (l_is_name : K.lookup f_is_name = some ⟨oc_is_name, od_is_name, .func (PySem.W.fnOf "is_name" "is_name" (defArgs s_is_name) (defBody s_is_name) (defScope s_is_name) .none kV_is_name dc_is_name pm_is_name an_is_name cd_is_name ct_is_name), sl_is_name⟩)
    (c_is_name : PySem.W.codeIn K cd_is_name "is_name" = true)
    (k_is_name : PySem.W.keepIn K (.ref f_is_name) = true)
    (a_need_events : PySem.W.nsIn K mainGlobals "need_events" = some (some (.ref f_need_events)))
    (l_need_events : K.lookup f_need_events = some ⟨oc_need_events, od_need_events, .func (PySem.W.fnOf "need_events" "need_events" (defArgs s_need_events) (defBody s_need_events) (defScope s_need_events) .none kV_need_events dc_need_events pm_need_events an_need_events cd_need_events ct_need_events), sl_need_events⟩)
    (c_need_events : PySem.W.codeIn K cd_need_events "need_events" = true)
    (k_need_events : PySem.W.keepIn K (.ref f_need_events) = true)
    (a_need_event : PySem.W.nsIn K mainGlobals "need_event" = some (some (.ref f_need_event)))
    (l_need_event : K.lookup f_need_event = some ⟨oc_need_event, od_need_event, .func (PySem.W.fnOf "need_event" "need_event" (defArgs s_need_event) (defBody s_need_event) (defScope s_need_event) .none kV_need_event dc_need_event pm_need_event an_need_event cd_need_event ct_need_event), sl_need_event⟩)
    (c_need_event : PySem.W.codeIn K cd_need_event "need_event" = true)
    (k_need_event : PySem.W.keepIn K (.ref f_need_event) = true)
    (a_need_tie : PySem.W.nsIn K mainGlobals "need_tie" = some (some (.ref f_need_tie)))
    (l_need_tie : K.lookup f_need_tie = some ⟨oc_need_tie, od_need_tie, .func (PySem.W.fnOf "need_tie" "need_tie" (defArgs s_need_tie) (defBody s_need_tie) (defScope s_need_tie) .none kV_need_tie dc_need_tie pm_need_tie an_need_tie cd_need_tie ct_need_tie), sl_need_tie⟩)
    (c_need_tie : PySem.W.codeIn K cd_need_tie "need_tie" = true)
    (k_need_tie : PySem.W.keepIn K (.ref f_need_tie) = true)
    (a_need_ties : PySem.W.nsIn K mainGlobals "need_ties" = some (some (.ref f_need_ties)))
    (l_need_ties : K.lookup f_need_ties = some ⟨oc_need_ties, od_need_ties, .func (PySem.W.fnOf "need_ties" "need_ties" (defArgs s_need_ties) (defBody s_need_ties) (defScope s_need_ties) .none kV_need_ties dc_need_ties pm_need_ties an_need_ties cd_need_ties ct_need_ties), sl_need_ties⟩)
    (c_need_ties : PySem.W.codeIn K cd_need_ties "need_ties" = true)
    (k_need_ties : PySem.W.keepIn K (.ref f_need_ties) = true)
    (a_need_limits : PySem.W.nsIn K mainGlobals "need_limits" = some (some (.ref f_need_limits)))
    (l_need_limits : K.lookup f_need_limits = some ⟨oc_need_limits, od_need_limits, .func (PySem.W.fnOf "need_limits" "need_limits" (defArgs s_need_limits) (defBody s_need_limits) (defScope s_need_limits) .none kV_need_limits dc_need_limits pm_need_limits an_need_limits cd_need_limits ct_need_limits), sl_need_limits⟩)
    (c_need_limits : PySem.W.codeIn K cd_need_limits "need_limits" = true)
    (k_need_limits : PySem.W.keepIn K (.ref f_need_limits) = true)
    (a_ringed : PySem.W.nsIn K mainGlobals "ringed" = some (some (.ref f_ringed)))
    (l_ringed : K.lookup f_ringed = some ⟨oc_ringed, od_ringed, .func (PySem.W.fnOf "ringed" "ringed" (defArgs s_ringed) (defBody s_ringed) (defScope s_ringed) .none kV_ringed dc_ringed pm_ringed an_ringed cd_ringed ct_ringed), sl_ringed⟩)
    (c_ringed : PySem.W.codeIn K cd_ringed "ringed" = true)
    (k_ringed : PySem.W.keepIn K (.ref f_ringed) = true)
    (a_need_plan : PySem.W.nsIn K mainGlobals "need_plan" = some (some (.ref f_need_plan)))
    (l_need_plan : K.lookup f_need_plan = some ⟨oc_need_plan, od_need_plan, .func (PySem.W.fnOf "need_plan" "need_plan" (defArgs s_need_plan) (defBody s_need_plan) (defScope s_need_plan) .none kV_need_plan dc_need_plan pm_need_plan an_need_plan cd_need_plan ct_need_plan), sl_need_plan⟩)
    (c_need_plan : PySem.W.codeIn K cd_need_plan "need_plan" = true)
    (k_need_plan : PySem.W.keepIn K (.ref f_need_plan) = true)
    (a_is_counts : PySem.W.nsIn K mainGlobals "is_counts" = some (some (.ref f_is_counts)))
    (l_is_counts : K.lookup f_is_counts = some ⟨oc_is_counts, od_is_counts, .func (PySem.W.fnOf "is_counts" "is_counts" (defArgs s_is_counts) (defBody s_is_counts) (defScope s_is_counts) .none kV_is_counts dc_is_counts pm_is_counts an_is_counts cd_is_counts ct_is_counts), sl_is_counts⟩)
    (c_is_counts : PySem.W.codeIn K cd_is_counts "is_counts" = true)
    (k_is_counts : PySem.W.keepIn K (.ref f_is_counts) = true)
    (a_need_counts : PySem.W.nsIn K mainGlobals "need_counts" = some (some (.ref f_need_counts)))
    (l_need_counts : K.lookup f_need_counts = some ⟨oc_need_counts, od_need_counts, .func (PySem.W.fnOf "need_counts" "need_counts" (defArgs s_need_counts) (defBody s_need_counts) (defScope s_need_counts) .none kV_need_counts dc_need_counts pm_need_counts an_need_counts cd_need_counts ct_need_counts), sl_need_counts⟩)
    (c_need_counts : PySem.W.codeIn K cd_need_counts "need_counts" = true)
    (k_need_counts : PySem.W.keepIn K (.ref f_need_counts) = true)
    (a_barred : PySem.W.nsIn K mainGlobals "barred" = some (some (.ref f_barred)))
    (l_barred : K.lookup f_barred = some ⟨oc_barred, od_barred, .func (PySem.W.fnOf "barred" "barred" (defArgs s_barred) (defBody s_barred) (defScope s_barred) .none kV_barred dc_barred pm_barred an_barred cd_barred ct_barred), sl_barred⟩)
    (c_barred : PySem.W.codeIn K cd_barred "barred" = true)
    (k_barred : PySem.W.keepIn K (.ref f_barred) = true)
    (a_is_moment : PySem.W.nsIn K mainGlobals "is_moment" = some (some (.ref f_is_moment)))
    (l_is_moment : K.lookup f_is_moment = some ⟨oc_is_moment, od_is_moment, .func (PySem.W.fnOf "is_moment" "is_moment" (defArgs s_is_moment) (defBody s_is_moment) (defScope s_is_moment) .none kV_is_moment dc_is_moment pm_is_moment an_is_moment cd_is_moment ct_is_moment), sl_is_moment⟩)
    (c_is_moment : PySem.W.codeIn K cd_is_moment "is_moment" = true)
    (k_is_moment : PySem.W.keepIn K (.ref f_is_moment) = true)
    (a_need_moment : PySem.W.nsIn K mainGlobals "need_moment" = some (some (.ref f_need_moment)))
    (l_need_moment : K.lookup f_need_moment = some ⟨oc_need_moment, od_need_moment, .func (PySem.W.fnOf "need_moment" "need_moment" (defArgs s_need_moment) (defBody s_need_moment) (defScope s_need_moment) .none kV_need_moment dc_need_moment pm_need_moment an_need_moment cd_need_moment ct_need_moment), sl_need_moment⟩)
    (c_need_moment : PySem.W.codeIn K cd_need_moment "need_moment" = true)
    (k_need_moment : PySem.W.keepIn K (.ref f_need_moment) = true)
    (a_stepped : PySem.W.nsIn K mainGlobals "stepped" = some (some (.ref f_stepped)))
    (l_stepped : K.lookup f_stepped = some ⟨oc_stepped, od_stepped, .func (PySem.W.fnOf "stepped" "stepped" (defArgs s_stepped) (defBody s_stepped) (defScope s_stepped) .none kV_stepped dc_stepped pm_stepped an_stepped cd_stepped ct_stepped), sl_stepped⟩)
    (c_stepped : PySem.W.codeIn K cd_stepped "stepped" = true)
    (k_stepped : PySem.W.keepIn K (.ref f_stepped) = true)
    (a_come : PySem.W.nsIn K mainGlobals "come" = some (some (.ref f_come)))
    (l_come : K.lookup f_come = some ⟨oc_come, od_come, .func (PySem.W.fnOf "come" "come" (defArgs s_come) (defBody s_come) (defScope s_come) .none kV_come dc_come pm_come an_come cd_come ct_come), sl_come⟩)
    (c_come : PySem.W.codeIn K cd_come "come" = true)
    (k_come : PySem.W.keepIn K (.ref f_come) = true)
    (a_came : PySem.W.nsIn K mainGlobals "came" = some (some (.ref f_came)))
    (l_came : K.lookup f_came = some ⟨oc_came, od_came, .func (PySem.W.fnOf "came" "came" (defArgs s_came) (defBody s_came) (defScope s_came) .none kV_came dc_came pm_came an_came cd_came ct_came), sl_came⟩)
    (c_came : PySem.W.codeIn K cd_came "came" = true)
    (k_came : PySem.W.keepIn K (.ref f_came) = true)
    (a_need_two_counts : PySem.W.nsIn K mainGlobals "need_two_counts" = some (some (.ref f_need_two_counts)))
    (l_need_two_counts : K.lookup f_need_two_counts = some ⟨oc_need_two_counts, od_need_two_counts, .func (PySem.W.fnOf "need_two_counts" "need_two_counts" (defArgs s_need_two_counts) (defBody s_need_two_counts) (defScope s_need_two_counts) .none kV_need_two_counts dc_need_two_counts pm_need_two_counts an_need_two_counts cd_need_two_counts ct_need_two_counts), sl_need_two_counts⟩)
    (c_need_two_counts : PySem.W.codeIn K cd_need_two_counts "need_two_counts" = true)
    (k_need_two_counts : PySem.W.keepIn K (.ref f_need_two_counts) = true)
    (a_higher : PySem.W.nsIn K mainGlobals "higher" = some (some (.ref f_higher)))
    (l_higher : K.lookup f_higher = some ⟨oc_higher, od_higher, .func (PySem.W.fnOf "higher" "higher" (defArgs s_higher) (defBody s_higher) (defScope s_higher) .none kV_higher dc_higher pm_higher an_higher cd_higher ct_higher), sl_higher⟩)
    (c_higher : PySem.W.codeIn K cd_higher "higher" = true)
    (k_higher : PySem.W.keepIn K (.ref f_higher) = true)
    (a_lower : PySem.W.nsIn K mainGlobals "lower" = some (some (.ref f_lower)))
    (l_lower : K.lookup f_lower = some ⟨oc_lower, od_lower, .func (PySem.W.fnOf "lower" "lower" (defArgs s_lower) (defBody s_lower) (defScope s_lower) .none kV_lower dc_lower pm_lower an_lower cd_lower ct_lower), sl_lower⟩)
    (c_lower : PySem.W.codeIn K cd_lower "lower" = true)
    (k_lower : PySem.W.keepIn K (.ref f_lower) = true)
    (a_beginning : PySem.W.nsIn K mainGlobals "beginning" = some (some (.ref f_beginning)))
    (l_beginning : K.lookup f_beginning = some ⟨oc_beginning, od_beginning, .func (PySem.W.fnOf "beginning" "beginning" (defArgs s_beginning) (defBody s_beginning) (defScope s_beginning) .none kV_beginning dc_beginning pm_beginning an_beginning cd_beginning ct_beginning), sl_beginning⟩)
    (c_beginning : PySem.W.codeIn K cd_beginning "beginning" = true)
    (k_beginning : PySem.W.keepIn K (.ref f_beginning) = true)
    (a_need_run : PySem.W.nsIn K mainGlobals "need_run" = some (some (.ref f_need_run)))
    (l_need_run : K.lookup f_need_run = some ⟨oc_need_run, od_need_run, .func (PySem.W.fnOf "need_run" "need_run" (defArgs s_need_run) (defBody s_need_run) (defScope s_need_run) .none kV_need_run dc_need_run pm_need_run an_need_run cd_need_run ct_need_run), sl_need_run⟩)
    (c_need_run : PySem.W.codeIn K cd_need_run "need_run" = true)
    (k_need_run : PySem.W.keepIn K (.ref f_need_run) = true)
    (a_waits : PySem.W.nsIn K mainGlobals "waits" = some (some (.ref f_waits)))
    (l_waits : K.lookup f_waits = some ⟨oc_waits, od_waits, .func (PySem.W.fnOf "waits" "waits" (defArgs s_waits) (defBody s_waits) (defScope s_waits) .none kV_waits dc_waits pm_waits an_waits cd_waits ct_waits), sl_waits⟩)
    (c_waits : PySem.W.codeIn K cd_waits "waits" = true)
    (k_waits : PySem.W.keepIn K (.ref f_waits) = true)
    (a_is_ready : PySem.W.nsIn K mainGlobals "is_ready" = some (some (.ref f_is_ready)))
    (l_is_ready : K.lookup f_is_ready = some ⟨oc_is_ready, od_is_ready, .func (PySem.W.fnOf "is_ready" "is_ready" (defArgs s_is_ready) (defBody s_is_ready) (defScope s_is_ready) .none kV_is_ready dc_is_ready pm_is_ready an_is_ready cd_is_ready ct_is_ready), sl_is_ready⟩)
    (c_is_ready : PySem.W.codeIn K cd_is_ready "is_ready" = true)
    (k_is_ready : PySem.W.keepIn K (.ref f_is_ready) = true)
    (a_next_towards : PySem.W.nsIn K mainGlobals "next_towards" = some (some (.ref f_next_towards)))
    (l_next_towards : K.lookup f_next_towards = some ⟨oc_next_towards, od_next_towards, .func (PySem.W.fnOf "next_towards" "next_towards" (defArgs s_next_towards) (defBody s_next_towards) (defScope s_next_towards) .none kV_next_towards dc_next_towards pm_next_towards an_next_towards cd_next_towards ct_next_towards), sl_next_towards⟩)
    (c_next_towards : PySem.W.codeIn K cd_next_towards "next_towards" = true)
    (k_next_towards : PySem.W.keepIn K (.ref f_next_towards) = true)
    (a_way_between : PySem.W.nsIn K mainGlobals "way_between" = some (some (.ref f_way_between)))
    (l_way_between : K.lookup f_way_between = some ⟨oc_way_between, od_way_between, .func (PySem.W.fnOf "way_between" "way_between" (defArgs s_way_between) (defBody s_way_between) (defScope s_way_between) .none kV_way_between dc_way_between pm_way_between an_way_between cd_way_between ct_way_between), sl_way_between⟩)
    (c_way_between : PySem.W.codeIn K cd_way_between "way_between" = true)
    (k_way_between : PySem.W.keepIn K (.ref f_way_between) = true)
    (a__law_cell : PySem.W.nsIn K mainGlobals "_law_cell" = some (some (.ref f__law_cell)))
    (l__law_cell : K.lookup f__law_cell = some ⟨oc__law_cell, od__law_cell, .func (PySem.W.fnOf "_law_cell" "_law_cell" (defArgs s_law_cell) (defBody s_law_cell) (defScope s_law_cell) .none kV__law_cell dc__law_cell pm__law_cell an__law_cell cd__law_cell ct__law_cell), sl__law_cell⟩)
    (c__law_cell : PySem.W.codeIn K cd__law_cell "_law_cell" = true)
    (k__law_cell : PySem.W.keepIn K (.ref f__law_cell) = true)
    (a__law_box : PySem.W.nsIn K mainGlobals "_law_box" = some (some (.ref f__law_box)))
    (l__law_box : K.lookup f__law_box = some ⟨oc__law_box, od__law_box, .func (PySem.W.fnOf "_law_box" "_law_box" (defArgs s_law_box) (defBody s_law_box) (defScope s_law_box) .none kV__law_box dc__law_box pm__law_box an__law_box cd__law_box ct__law_box), sl__law_box⟩)
    (c__law_box : PySem.W.codeIn K cd__law_box "_law_box" = true)
    (k__law_box : PySem.W.keepIn K (.ref f__law_box) = true)
    (a__law_take : PySem.W.nsIn K mainGlobals "_law_take" = some (some (.ref f__law_take)))
    (l__law_take : K.lookup f__law_take = some ⟨oc__law_take, od__law_take, .func (PySem.W.fnOf "_law_take" "_law_take" (defArgs s_law_take) (defBody s_law_take) (defScope s_law_take) .none kV__law_take dc__law_take pm__law_take an__law_take cd__law_take ct__law_take), sl__law_take⟩)
    (c__law_take : PySem.W.codeIn K cd__law_take "_law_take" = true)
    (k__law_take : PySem.W.keepIn K (.ref f__law_take) = true)
    (a__law_names : PySem.W.nsIn K mainGlobals "_law_names" = some (some (.ref f__law_names)))
    (l__law_names : K.lookup f__law_names = some ⟨oc__law_names, od__law_names, .func (PySem.W.fnOf "_law_names" "_law_names" (defArgs s_law_names) (defBody s_law_names) (defScope s_law_names) .none kV__law_names dc__law_names pm__law_names an__law_names cd__law_names ct__law_names), sl__law_names⟩)
    (c__law_names : PySem.W.codeIn K cd__law_names "_law_names" = true)
    (k__law_names : PySem.W.keepIn K (.ref f__law_names) = true)
    (a__law_shuffled : PySem.W.nsIn K mainGlobals "_law_shuffled" = some (some (.ref f__law_shuffled)))
    (l__law_shuffled : K.lookup f__law_shuffled = some ⟨oc__law_shuffled, od__law_shuffled, .func (PySem.W.fnOf "_law_shuffled" "_law_shuffled" (defArgs s_law_shuffled) (defBody s_law_shuffled) (defScope s_law_shuffled) .none kV__law_shuffled dc__law_shuffled pm__law_shuffled an__law_shuffled cd__law_shuffled ct__law_shuffled), sl__law_shuffled⟩)
    (c__law_shuffled : PySem.W.codeIn K cd__law_shuffled "_law_shuffled" = true)
    (k__law_shuffled : PySem.W.keepIn K (.ref f__law_shuffled) = true)
    (a__law_plan : PySem.W.nsIn K mainGlobals "_law_plan" = some (some (.ref f__law_plan)))
    (l__law_plan : K.lookup f__law_plan = some ⟨oc__law_plan, od__law_plan, .func (PySem.W.fnOf "_law_plan" "_law_plan" (defArgs s_law_plan) (defBody s_law_plan) (defScope s_law_plan) .none kV__law_plan dc__law_plan pm__law_plan an__law_plan cd__law_plan ct__law_plan), sl__law_plan⟩)
    (c__law_plan : PySem.W.codeIn K cd__law_plan "_law_plan" = true)
    (k__law_plan : PySem.W.keepIn K (.ref f__law_plan) = true)
    (a__law_made : PySem.W.nsIn K mainGlobals "_law_made" = some (some (.ref f__law_made)))
    (l__law_made : K.lookup f__law_made = some ⟨oc__law_made, od__law_made, .func (PySem.W.fnOf "_law_made" "_law_made" (defArgs s_law_made) (defBody s_law_made) (defScope s_law_made) .none kV__law_made dc__law_made pm__law_made an__law_made cd__law_made ct__law_made), sl__law_made⟩)
    (c__law_made : PySem.W.codeIn K cd__law_made "_law_made" = true)
    (k__law_made : PySem.W.keepIn K (.ref f__law_made) = true)
    (a__law_broken : PySem.W.nsIn K mainGlobals "_law_broken" = some (some (.ref f__law_broken)))
    (l__law_broken : K.lookup f__law_broken = some ⟨oc__law_broken, od__law_broken, .func (PySem.W.fnOf "_law_broken" "_law_broken" (defArgs s_law_broken) (defBody s_law_broken) (defScope s_law_broken) .none kV__law_broken dc__law_broken pm__law_broken an__law_broken cd__law_broken ct__law_broken), sl__law_broken⟩)
    (c__law_broken : PySem.W.codeIn K cd__law_broken "_law_broken" = true)
    (k__law_broken : PySem.W.keepIn K (.ref f__law_broken) = true)
    (a__law_zero : PySem.W.nsIn K mainGlobals "_law_zero" = some (some (.ref f__law_zero)))
    (l__law_zero : K.lookup f__law_zero = some ⟨oc__law_zero, od__law_zero, .func (PySem.W.fnOf "_law_zero" "_law_zero" (defArgs s_law_zero) (defBody s_law_zero) (defScope s_law_zero) .none kV__law_zero dc__law_zero pm__law_zero an__law_zero cd__law_zero ct__law_zero), sl__law_zero⟩)
    (c__law_zero : PySem.W.codeIn K cd__law_zero "_law_zero" = true)
    (k__law_zero : PySem.W.keepIn K (.ref f__law_zero) = true)
    (a__law_with : PySem.W.nsIn K mainGlobals "_law_with" = some (some (.ref f__law_with)))
    (l__law_with : K.lookup f__law_with = some ⟨oc__law_with, od__law_with, .func (PySem.W.fnOf "_law_with" "_law_with" (defArgs s_law_with) (defBody s_law_with) (defScope s_law_with) .none kV__law_with dc__law_with pm__law_with an__law_with cd__law_with ct__law_with), sl__law_with⟩)
    (c__law_with : PySem.W.codeIn K cd__law_with "_law_with" = true)
    (k__law_with : PySem.W.keepIn K (.ref f__law_with) = true)
    (a__law_run : PySem.W.nsIn K mainGlobals "_law_run" = some (some (.ref f__law_run)))
    (l__law_run : K.lookup f__law_run = some ⟨oc__law_run, od__law_run, .func (PySem.W.fnOf "_law_run" "_law_run" (defArgs s_law_run) (defBody s_law_run) (defScope s_law_run) .none kV__law_run dc__law_run pm__law_run an__law_run cd__law_run ct__law_run), sl__law_run⟩)
    (c__law_run : PySem.W.codeIn K cd__law_run "_law_run" = true)
    (k__law_run : PySem.W.keepIn K (.ref f__law_run) = true)
    (a__law_turned : PySem.W.nsIn K mainGlobals "_law_turned" = some (some (.ref f__law_turned)))
    (l__law_turned : K.lookup f__law_turned = some ⟨oc__law_turned, od__law_turned, .func (PySem.W.fnOf "_law_turned" "_law_turned" (defArgs s_law_turned) (defBody s_law_turned) (defScope s_law_turned) .none kV__law_turned dc__law_turned pm__law_turned an__law_turned cd__law_turned ct__law_turned), sl__law_turned⟩)
    (c__law_turned : PySem.W.codeIn K cd__law_turned "_law_turned" = true)
    (k__law_turned : PySem.W.keepIn K (.ref f__law_turned) = true)
    (a__law_called : PySem.W.nsIn K mainGlobals "_law_called" = some (some (.ref f__law_called)))
    (l__law_called : K.lookup f__law_called = some ⟨oc__law_called, od__law_called, .func (PySem.W.fnOf "_law_called" "_law_called" (defArgs s_law_called) (defBody s_law_called) (defScope s_law_called) .none kV__law_called dc__law_called pm__law_called an__law_called cd__law_called ct__law_called), sl__law_called⟩)
    (c__law_called : PySem.W.codeIn K cd__law_called "_law_called" = true)
    (k__law_called : PySem.W.keepIn K (.ref f__law_called) = true)
    (a__law_refused : PySem.W.nsIn K mainGlobals "_law_refused" = some (some (.ref f__law_refused)))
    (l__law_refused : K.lookup f__law_refused = some ⟨oc__law_refused, od__law_refused, .func (PySem.W.fnOf "_law_refused" "_law_refused" (defArgs s_law_refused) (defBody s_law_refused) (defScope s_law_refused) .none kV__law_refused dc__law_refused pm__law_refused an__law_refused cd__law_refused ct__law_refused), sl__law_refused⟩)
    (c__law_refused : PySem.W.codeIn K cd__law_refused "_law_refused" = true)
    (k__law_refused : PySem.W.keepIn K (.ref f__law_refused) = true)
    (a__law_rest_right : PySem.W.nsIn K mainGlobals "_law_rest_right" = some (some (.ref f__law_rest_right)))
    (l__law_rest_right : K.lookup f__law_rest_right = some ⟨oc__law_rest_right, od__law_rest_right, .func (PySem.W.fnOf "_law_rest_right" "_law_rest_right" (defArgs s_law_rest_right) (defBody s_law_rest_right) (defScope s_law_rest_right) .none kV__law_rest_right dc__law_rest_right pm__law_rest_right an__law_rest_right cd__law_rest_right ct__law_rest_right), sl__law_rest_right⟩)
    (c__law_rest_right : PySem.W.codeIn K cd__law_rest_right "_law_rest_right" = true)
    (k__law_rest_right : PySem.W.keepIn K (.ref f__law_rest_right) = true)
    (a__law_right : PySem.W.nsIn K mainGlobals "_law_right" = some (some (.ref f__law_right)))
    (l__law_right : K.lookup f__law_right = some ⟨oc__law_right, od__law_right, .func (PySem.W.fnOf "_law_right" "_law_right" (defArgs s_law_right) (defBody s_law_right) (defScope s_law_right) .none kV__law_right dc__law_right pm__law_right an__law_right cd__law_right ct__law_right), sl__law_right⟩)
    (c__law_right : PySem.W.codeIn K cd__law_right "_law_right" = true)
    (k__law_right : PySem.W.keepIn K (.ref f__law_right) = true)
    (a_law : PySem.W.nsIn K mainGlobals "law" = some (some (.ref f_law)))
    (l_law : K.lookup f_law = some ⟨oc_law, od_law, .func (PySem.W.fnOf "law" "law" (defArgs s_law) (defBody s_law) (defScope s_law) .none kV_law dc_law pm_law an_law cd_law ct_law), sl_law⟩)
    (c_law : PySem.W.codeIn K cd_law "law" = true)
    (k_law : PySem.W.keepIn K (.ref f_law) = true)
    (a_behind : PySem.W.nsIn K mainGlobals "behind" = some (some (.ref f_behind)))
    (l_behind : K.lookup f_behind = some ⟨oc_behind, od_behind, .func (PySem.W.fnOf "behind" "behind" (defArgs s_behind) (defBody s_behind) (defScope s_behind) .none (.ref kD_behind) dc_behind pm_behind an_behind cd_behind ct_behind), sl_behind⟩)
    (c_behind : PySem.W.codeIn K cd_behind "behind" = true)
    (k_behind : PySem.W.keepIn K (.ref f_behind) = true)
    (w_behind : PySem.W.nsIn K kD_behind "begin" = some (some .none))
    (a_run_to : PySem.W.nsIn K mainGlobals "run_to" = some (some (.ref f_run_to)))
    (l_run_to : K.lookup f_run_to = some ⟨oc_run_to, od_run_to, .func (PySem.W.fnOf "run_to" "run_to" (defArgs s_run_to) (defBody s_run_to) (defScope s_run_to) .none (.ref kD_run_to) dc_run_to pm_run_to an_run_to cd_run_to ct_run_to), sl_run_to⟩)
    (c_run_to : PySem.W.codeIn K cd_run_to "run_to" = true)
    (k_run_to : PySem.W.keepIn K (.ref f_run_to) = true)
    (w_run_to : PySem.W.nsIn K kD_run_to "begin" = some (some .none))
    (aC : PySem.W.nsIn K mainGlobals "Plan" = some (some (.ref C)))
    (pgC : PySem.W.plainGet K C Str.empty = true)
    (hdC : PySem.W.hasDictIn K C = true)
    (poC : PySem.W.plainOver K C = true)
    (saC : PySem.W.findIn K (.ref C) "__setattr__" = some (some (.builtin "object.__setattr__")))
    (mkC : PySem.W.makesIn K C = true)
    (kpC : PySem.W.keepIn K (.ref C) = true)
    (n_order : PySem.W.findIn K (.ref C) "order" = some none)
    (n_rows : PySem.W.findIn K (.ref C) "rows" = some none)
    (n_caps : PySem.W.findIn K (.ref C) "caps" = some none)
    (haC : PySem.W.findIn K (.ref C) "__class__" = some (some (.builtin "object.__class__")))
    (hnC : PySem.W.specialIn K (.builtin "object.__class__") "__get__" = some (some (.builtin "getset_descriptor.__get__")))
    (htC : PySem.W.takesIn K (.builtin "object.__class__") = some true)
    (hmC : PySem.W.mroIn K C (.type "object") = some true)
    (isC : PySem.W.kitOne K (.ref C) (.ref C) = some true)
    (a_Plan_events : PySem.W.findIn K (.ref C) "events" = some (some (.ref f_Plan_events)))
    (i_Plan_events : PySem.W.isFn K (.ref f_Plan_events) = true)
    (l_Plan_events : K.lookup f_Plan_events = some ⟨oc_Plan_events, od_Plan_events, .func (PySem.W.fnOf "events" "Plan.events" (defArgs s_Plan_events) (defBody s_Plan_events) (defScope s_Plan_events) .none kV_Plan_events dc_Plan_events pm_Plan_events an_Plan_events cd_Plan_events ct_Plan_events), sl_Plan_events⟩)
    (c_Plan_events : PySem.W.codeIn K cd_Plan_events "Plan.events" = true)
    (k_Plan_events : PySem.W.keepIn K (.ref f_Plan_events) = true)
    (a_Plan_ties : PySem.W.findIn K (.ref C) "ties" = some (some (.ref f_Plan_ties)))
    (i_Plan_ties : PySem.W.isFn K (.ref f_Plan_ties) = true)
    (l_Plan_ties : K.lookup f_Plan_ties = some ⟨oc_Plan_ties, od_Plan_ties, .func (PySem.W.fnOf "ties" "Plan.ties" (defArgs s_Plan_ties) (defBody s_Plan_ties) (defScope s_Plan_ties) .none kV_Plan_ties dc_Plan_ties pm_Plan_ties an_Plan_ties cd_Plan_ties ct_Plan_ties), sl_Plan_ties⟩)
    (c_Plan_ties : PySem.W.codeIn K cd_Plan_ties "Plan.ties" = true)
    (k_Plan_ties : PySem.W.keepIn K (.ref f_Plan_ties) = true)
    (a_Plan_limits : PySem.W.findIn K (.ref C) "limits" = some (some (.ref f_Plan_limits)))
    (i_Plan_limits : PySem.W.isFn K (.ref f_Plan_limits) = true)
    (l_Plan_limits : K.lookup f_Plan_limits = some ⟨oc_Plan_limits, od_Plan_limits, .func (PySem.W.fnOf "limits" "Plan.limits" (defArgs s_Plan_limits) (defBody s_Plan_limits) (defScope s_Plan_limits) .none kV_Plan_limits dc_Plan_limits pm_Plan_limits an_Plan_limits cd_Plan_limits ct_Plan_limits), sl_Plan_limits⟩)
    (c_Plan_limits : PySem.W.codeIn K cd_Plan_limits "Plan.limits" = true)
    (k_Plan_limits : PySem.W.keepIn K (.ref f_Plan_limits) = true)
    (a_Plan___len__ : PySem.W.findIn K (.ref C) "__len__" = some (some (.ref f_Plan___len__)))
    (i_Plan___len__ : PySem.W.isFn K (.ref f_Plan___len__) = true)
    (l_Plan___len__ : K.lookup f_Plan___len__ = some ⟨oc_Plan___len__, od_Plan___len__, .func (PySem.W.fnOf "__len__" "Plan.__len__" (defArgs s_Plan___len__) (defBody s_Plan___len__) (defScope s_Plan___len__) .none kV_Plan___len__ dc_Plan___len__ pm_Plan___len__ an_Plan___len__ cd_Plan___len__ ct_Plan___len__), sl_Plan___len__⟩)
    (c_Plan___len__ : PySem.W.codeIn K cd_Plan___len__ "Plan.__len__" = true)
    (k_Plan___len__ : PySem.W.keepIn K (.ref f_Plan___len__) = true)
    (a_Plan___contains__ : PySem.W.findIn K (.ref C) "__contains__" = some (some (.ref f_Plan___contains__)))
    (i_Plan___contains__ : PySem.W.isFn K (.ref f_Plan___contains__) = true)
    (l_Plan___contains__ : K.lookup f_Plan___contains__ = some ⟨oc_Plan___contains__, od_Plan___contains__, .func (PySem.W.fnOf "__contains__" "Plan.__contains__" (defArgs s_Plan___contains__) (defBody s_Plan___contains__) (defScope s_Plan___contains__) .none kV_Plan___contains__ dc_Plan___contains__ pm_Plan___contains__ an_Plan___contains__ cd_Plan___contains__ ct_Plan___contains__), sl_Plan___contains__⟩)
    (c_Plan___contains__ : PySem.W.codeIn K cd_Plan___contains__ "Plan.__contains__" = true)
    (k_Plan___contains__ : PySem.W.keepIn K (.ref f_Plan___contains__) = true)
    (a_init : PySem.W.findIn K (.ref C) "__init__" = some (some (.ref f_init)))
    (i_init : PySem.W.isFn K (.ref f_init) = true)
    (l_init : K.lookup f_init = some ⟨oc_init, od_init, .func (PySem.W.fnOf "__init__" "Plan.__init__" (defArgs s_Plan___init__) (defBody s_Plan___init__) (defScope s_Plan___init__) (.ref T_init) (.ref kD_init) dc_init pm_init an_init cd_init ct_init), sl_init⟩)
    (c_init : PySem.W.codeIn K cd_init "Plan.__init__" = true)
    (k_init : PySem.W.keepIn K (.ref f_init) = true)
    (t_init : K.lookup T_init = some ⟨ocT, odT, .seq [Value.ref U_init].toArray nT, slT⟩)
    (u_init : K.lookup U_init = some ⟨.type "tuple", odU, .seq [].toArray nU, slU⟩)
    (w_init : PySem.W.nsIn K kD_init "limits" = some (some .none))
    (xa_InvalidPlan : PySem.W.nsIn K mainGlobals "InvalidPlan" = some (some (.ref E_InvalidPlan)))
    (xl_InvalidPlan : K.lookup E_InvalidPlan = some (excClassObj nm_InvalidPlan q_InvalidPlan E_InvalidPlan N_InvalidPlan bs_InvalidPlan bm_InvalidPlan true sn_InvalidPlan sb_InvalidPlan ab_InvalidPlan co_InvalidPlan dd_InvalidPlan k0_InvalidPlan k1_InvalidPlan k2_InvalidPlan k3_InvalidPlan k5_InvalidPlan "ValueError.__new__"))
    (xu_InvalidPlan : Er.Above bm_InvalidPlan "ValueError")
    (xo_InvalidPlan : PySem.W.excOver K E_InvalidPlan PySem.Er.vT = true)
    (xs_InvalidPlan : PySem.W.findIn K (.ref E_InvalidPlan) "__setattr__" = some (some (.builtin "object.__setattr__")))
    (xg_InvalidPlan : PySem.W.findIn K (.ref E_InvalidPlan) "__getattribute__" = some (some (.builtin "BaseException.__getattribute__")))
    (xh_InvalidPlan : PySem.W.findIn K (.ref E_InvalidPlan) "__getattr__" = some none)
    (xn_InvalidPlan : PySem.W.findIn K (.ref E_InvalidPlan) "value" = some none)
    (xi_InvalidPlan : PySem.W.findIn K (.ref E_InvalidPlan) "__init__" = some (some (.ref fe_InvalidPlan)))
    (xt_InvalidPlan : PySem.W.typeIn K (.ref fe_InvalidPlan) = some (.type "function"))
    (xk_InvalidPlan : PySem.W.keepIn K (.ref E_InvalidPlan) = true)
    (xe_InvalidPlan : PySem.W.subIn K (.ref E_InvalidPlan) (.type "BaseException") = some true)
    (xy_InvalidPlan : PySem.W.typeIn K (.ref E_InvalidPlan) = some (.type "type"))
    (xd_InvalidPlan : PySem.W.hasDictIn K E_InvalidPlan = true)
    (xc_InvalidPlan : PySem.W.isClsIn K E_InvalidPlan = true)
    (xf_InvalidPlan : K.lookup fe_InvalidPlan = some ⟨oc_InvalidPlan, od_InvalidPlan, .func (PySem.W.fnOf "__init__" "InvalidPlan.__init__" (PySem.Er.iA "value" p1_InvalidPlan p2_InvalidPlan) (PySem.Er.iB "value" q1_InvalidPlan q2_InvalidPlan q3_InvalidPlan q4_InvalidPlan) (PySem.Er.iS "value") .none .none dc_InvalidPlan pm_InvalidPlan an_InvalidPlan cd_InvalidPlan ct_InvalidPlan), sl_InvalidPlan⟩)
    (xq_InvalidPlan : PySem.W.codeIn K cd_InvalidPlan "InvalidPlan.__init__" = true)
    (xa_InvalidCounts : PySem.W.nsIn K mainGlobals "InvalidCounts" = some (some (.ref E_InvalidCounts)))
    (xl_InvalidCounts : K.lookup E_InvalidCounts = some (excClassObj nm_InvalidCounts q_InvalidCounts E_InvalidCounts N_InvalidCounts bs_InvalidCounts bm_InvalidCounts true sn_InvalidCounts sb_InvalidCounts ab_InvalidCounts co_InvalidCounts dd_InvalidCounts k0_InvalidCounts k1_InvalidCounts k2_InvalidCounts k3_InvalidCounts k5_InvalidCounts "ValueError.__new__"))
    (xu_InvalidCounts : Er.Above bm_InvalidCounts "ValueError")
    (xo_InvalidCounts : PySem.W.excOver K E_InvalidCounts PySem.Er.vT = true)
    (xs_InvalidCounts : PySem.W.findIn K (.ref E_InvalidCounts) "__setattr__" = some (some (.builtin "object.__setattr__")))
    (xg_InvalidCounts : PySem.W.findIn K (.ref E_InvalidCounts) "__getattribute__" = some (some (.builtin "BaseException.__getattribute__")))
    (xh_InvalidCounts : PySem.W.findIn K (.ref E_InvalidCounts) "__getattr__" = some none)
    (xn_InvalidCounts : PySem.W.findIn K (.ref E_InvalidCounts) "value" = some none)
    (xi_InvalidCounts : PySem.W.findIn K (.ref E_InvalidCounts) "__init__" = some (some (.ref fe_InvalidCounts)))
    (xt_InvalidCounts : PySem.W.typeIn K (.ref fe_InvalidCounts) = some (.type "function"))
    (xk_InvalidCounts : PySem.W.keepIn K (.ref E_InvalidCounts) = true)
    (xe_InvalidCounts : PySem.W.subIn K (.ref E_InvalidCounts) (.type "BaseException") = some true)
    (xy_InvalidCounts : PySem.W.typeIn K (.ref E_InvalidCounts) = some (.type "type"))
    (xd_InvalidCounts : PySem.W.hasDictIn K E_InvalidCounts = true)
    (xc_InvalidCounts : PySem.W.isClsIn K E_InvalidCounts = true)
    (xf_InvalidCounts : K.lookup fe_InvalidCounts = some ⟨oc_InvalidCounts, od_InvalidCounts, .func (PySem.W.fnOf "__init__" "InvalidCounts.__init__" (PySem.Er.iA "value" p1_InvalidCounts p2_InvalidCounts) (PySem.Er.iB "value" q1_InvalidCounts q2_InvalidCounts q3_InvalidCounts q4_InvalidCounts) (PySem.Er.iS "value") .none .none dc_InvalidCounts pm_InvalidCounts an_InvalidCounts cd_InvalidCounts ct_InvalidCounts), sl_InvalidCounts⟩)
    (xq_InvalidCounts : PySem.W.codeIn K cd_InvalidCounts "InvalidCounts.__init__" = true)
    (xa_InvalidRun : PySem.W.nsIn K mainGlobals "InvalidRun" = some (some (.ref E_InvalidRun)))
    (xl_InvalidRun : K.lookup E_InvalidRun = some (excClassObj nm_InvalidRun q_InvalidRun E_InvalidRun N_InvalidRun bs_InvalidRun bm_InvalidRun true sn_InvalidRun sb_InvalidRun ab_InvalidRun co_InvalidRun dd_InvalidRun k0_InvalidRun k1_InvalidRun k2_InvalidRun k3_InvalidRun k5_InvalidRun "ValueError.__new__"))
    (xu_InvalidRun : Er.Above bm_InvalidRun "ValueError")
    (xo_InvalidRun : PySem.W.excOver K E_InvalidRun PySem.Er.vT = true)
    (xs_InvalidRun : PySem.W.findIn K (.ref E_InvalidRun) "__setattr__" = some (some (.builtin "object.__setattr__")))
    (xg_InvalidRun : PySem.W.findIn K (.ref E_InvalidRun) "__getattribute__" = some (some (.builtin "BaseException.__getattribute__")))
    (xh_InvalidRun : PySem.W.findIn K (.ref E_InvalidRun) "__getattr__" = some none)
    (xn_InvalidRun : PySem.W.findIn K (.ref E_InvalidRun) "value" = some none)
    (xi_InvalidRun : PySem.W.findIn K (.ref E_InvalidRun) "__init__" = some (some (.ref fe_InvalidRun)))
    (xt_InvalidRun : PySem.W.typeIn K (.ref fe_InvalidRun) = some (.type "function"))
    (xk_InvalidRun : PySem.W.keepIn K (.ref E_InvalidRun) = true)
    (xe_InvalidRun : PySem.W.subIn K (.ref E_InvalidRun) (.type "BaseException") = some true)
    (xy_InvalidRun : PySem.W.typeIn K (.ref E_InvalidRun) = some (.type "type"))
    (xd_InvalidRun : PySem.W.hasDictIn K E_InvalidRun = true)
    (xc_InvalidRun : PySem.W.isClsIn K E_InvalidRun = true)
    (xf_InvalidRun : K.lookup fe_InvalidRun = some ⟨oc_InvalidRun, od_InvalidRun, .func (PySem.W.fnOf "__init__" "InvalidRun.__init__" (PySem.Er.iA "value" p1_InvalidRun p2_InvalidRun) (PySem.Er.iB "value" q1_InvalidRun q2_InvalidRun q3_InvalidRun q4_InvalidRun) (PySem.Er.iS "value") .none .none dc_InvalidRun pm_InvalidRun an_InvalidRun cd_InvalidRun ct_InvalidRun), sl_InvalidRun⟩)
    (xq_InvalidRun : PySem.W.codeIn K cd_InvalidRun "InvalidRun.__init__" = true)
    (xa_NotMoment : PySem.W.nsIn K mainGlobals "NotMoment" = some (some (.ref E_NotMoment)))
    (xl_NotMoment : K.lookup E_NotMoment = some (excClassObj nm_NotMoment q_NotMoment E_NotMoment N_NotMoment bs_NotMoment bm_NotMoment true sn_NotMoment sb_NotMoment ab_NotMoment co_NotMoment dd_NotMoment k0_NotMoment k1_NotMoment k2_NotMoment k3_NotMoment k5_NotMoment "LookupError.__new__"))
    (xu_NotMoment : Er.Above bm_NotMoment "LookupError")
    (xo_NotMoment : PySem.W.excOver K E_NotMoment PySem.Er.lT = true)
    (xs_NotMoment : PySem.W.findIn K (.ref E_NotMoment) "__setattr__" = some (some (.builtin "object.__setattr__")))
    (xg_NotMoment : PySem.W.findIn K (.ref E_NotMoment) "__getattribute__" = some (some (.builtin "BaseException.__getattribute__")))
    (xh_NotMoment : PySem.W.findIn K (.ref E_NotMoment) "__getattr__" = some none)
    (xn_NotMoment : PySem.W.findIn K (.ref E_NotMoment) "value" = some none)
    (xi_NotMoment : PySem.W.findIn K (.ref E_NotMoment) "__init__" = some (some (.ref fe_NotMoment)))
    (xt_NotMoment : PySem.W.typeIn K (.ref fe_NotMoment) = some (.type "function"))
    (xk_NotMoment : PySem.W.keepIn K (.ref E_NotMoment) = true)
    (xe_NotMoment : PySem.W.subIn K (.ref E_NotMoment) (.type "BaseException") = some true)
    (xy_NotMoment : PySem.W.typeIn K (.ref E_NotMoment) = some (.type "type"))
    (xd_NotMoment : PySem.W.hasDictIn K E_NotMoment = true)
    (xc_NotMoment : PySem.W.isClsIn K E_NotMoment = true)
    (xf_NotMoment : K.lookup fe_NotMoment = some ⟨oc_NotMoment, od_NotMoment, .func (PySem.W.fnOf "__init__" "NotMoment.__init__" (PySem.Er.iA "value" p1_NotMoment p2_NotMoment) (PySem.Er.iB "value" q1_NotMoment q2_NotMoment q3_NotMoment q4_NotMoment) (PySem.Er.iS "value") .none .none dc_NotMoment pm_NotMoment an_NotMoment cd_NotMoment ct_NotMoment), sl_NotMoment⟩)
    (xq_NotMoment : PySem.W.codeIn K cd_NotMoment "NotMoment.__init__" = true)
    (xa_NotBehind : PySem.W.nsIn K mainGlobals "NotBehind" = some (some (.ref E_NotBehind)))
    (xl_NotBehind : K.lookup E_NotBehind = some (excClassObj nm_NotBehind q_NotBehind E_NotBehind N_NotBehind bs_NotBehind bm_NotBehind true sn_NotBehind sb_NotBehind ab_NotBehind co_NotBehind dd_NotBehind k0_NotBehind k1_NotBehind k2_NotBehind k3_NotBehind k5_NotBehind "LookupError.__new__"))
    (xu_NotBehind : Er.Above bm_NotBehind "LookupError")
    (xo_NotBehind : PySem.W.excOver K E_NotBehind PySem.Er.lT = true)
    (xs_NotBehind : PySem.W.findIn K (.ref E_NotBehind) "__setattr__" = some (some (.builtin "object.__setattr__")))
    (xg_NotBehind : PySem.W.findIn K (.ref E_NotBehind) "__getattribute__" = some (some (.builtin "BaseException.__getattribute__")))
    (xh_NotBehind : PySem.W.findIn K (.ref E_NotBehind) "__getattr__" = some none)
    (xn_NotBehind : PySem.W.findIn K (.ref E_NotBehind) "value" = some none)
    (xi_NotBehind : PySem.W.findIn K (.ref E_NotBehind) "__init__" = some (some (.ref fe_NotBehind)))
    (xt_NotBehind : PySem.W.typeIn K (.ref fe_NotBehind) = some (.type "function"))
    (xk_NotBehind : PySem.W.keepIn K (.ref E_NotBehind) = true)
    (xe_NotBehind : PySem.W.subIn K (.ref E_NotBehind) (.type "BaseException") = some true)
    (xy_NotBehind : PySem.W.typeIn K (.ref E_NotBehind) = some (.type "type"))
    (xd_NotBehind : PySem.W.hasDictIn K E_NotBehind = true)
    (xc_NotBehind : PySem.W.isClsIn K E_NotBehind = true)
    (xf_NotBehind : K.lookup fe_NotBehind = some ⟨oc_NotBehind, od_NotBehind, .func (PySem.W.fnOf "__init__" "NotBehind.__init__" (PySem.Er.iA "value" p1_NotBehind p2_NotBehind) (PySem.Er.iB "value" q1_NotBehind q2_NotBehind q3_NotBehind q4_NotBehind) (PySem.Er.iS "value") .none .none dc_NotBehind pm_NotBehind an_NotBehind cd_NotBehind ct_NotBehind), sl_NotBehind⟩)
    (xq_NotBehind : PySem.W.codeIn K cd_NotBehind "NotBehind.__init__" = true)
    (xa_Barred : PySem.W.nsIn K mainGlobals "Barred" = some (some (.ref E_Barred)))
    (xl_Barred : K.lookup E_Barred = some (excClassObj nm_Barred q_Barred E_Barred N_Barred bs_Barred bm_Barred true sn_Barred sb_Barred ab_Barred co_Barred dd_Barred k0_Barred k1_Barred k2_Barred k3_Barred k5_Barred "LookupError.__new__"))
    (xu_Barred : Er.Above bm_Barred "LookupError")
    (xo_Barred : PySem.W.excOver K E_Barred PySem.Er.lT = true)
    (xs_Barred : PySem.W.findIn K (.ref E_Barred) "__setattr__" = some (some (.builtin "object.__setattr__")))
    (xg_Barred : PySem.W.findIn K (.ref E_Barred) "__getattribute__" = some (some (.builtin "BaseException.__getattribute__")))
    (xh_Barred : PySem.W.findIn K (.ref E_Barred) "__getattr__" = some none)
    (xn_Barred : PySem.W.findIn K (.ref E_Barred) "index" = some none)
    (xi_Barred : PySem.W.findIn K (.ref E_Barred) "__init__" = some (some (.ref fe_Barred)))
    (xt_Barred : PySem.W.typeIn K (.ref fe_Barred) = some (.type "function"))
    (xk_Barred : PySem.W.keepIn K (.ref E_Barred) = true)
    (xe_Barred : PySem.W.subIn K (.ref E_Barred) (.type "BaseException") = some true)
    (xy_Barred : PySem.W.typeIn K (.ref E_Barred) = some (.type "type"))
    (xd_Barred : PySem.W.hasDictIn K E_Barred = true)
    (xc_Barred : PySem.W.isClsIn K E_Barred = true)
    (xf_Barred : K.lookup fe_Barred = some ⟨oc_Barred, od_Barred, .func (PySem.W.fnOf "__init__" "Barred.__init__" (PySem.Er.iA "index" p1_Barred p2_Barred) (PySem.Er.iB "index" q1_Barred q2_Barred q3_Barred q4_Barred) (PySem.Er.iS "index") .none .none dc_Barred pm_Barred an_Barred cd_Barred ct_Barred), sl_Barred⟩)
    (xq_Barred : PySem.W.codeIn K cd_Barred "Barred.__init__" = true)
    (xa_TooLong : PySem.W.nsIn K mainGlobals "TooLong" = some (some (.ref E_TooLong)))
    (xl_TooLong : K.lookup E_TooLong = some (excClassObj nm_TooLong q_TooLong E_TooLong N_TooLong bs_TooLong bm_TooLong true sn_TooLong sb_TooLong ab_TooLong co_TooLong dd_TooLong k0_TooLong k1_TooLong k2_TooLong k3_TooLong k5_TooLong "LookupError.__new__"))
    (xu_TooLong : Er.Above bm_TooLong "LookupError")
    (xo_TooLong : PySem.W.excOver K E_TooLong PySem.Er.lT = true)
    (xs_TooLong : PySem.W.findIn K (.ref E_TooLong) "__setattr__" = some (some (.builtin "object.__setattr__")))
    (xg_TooLong : PySem.W.findIn K (.ref E_TooLong) "__getattribute__" = some (some (.builtin "BaseException.__getattribute__")))
    (xh_TooLong : PySem.W.findIn K (.ref E_TooLong) "__getattr__" = some none)
    (xn_TooLong : PySem.W.findIn K (.ref E_TooLong) "total" = some none)
    (xi_TooLong : PySem.W.findIn K (.ref E_TooLong) "__init__" = some (some (.ref fe_TooLong)))
    (xt_TooLong : PySem.W.typeIn K (.ref fe_TooLong) = some (.type "function"))
    (xk_TooLong : PySem.W.keepIn K (.ref E_TooLong) = true)
    (xe_TooLong : PySem.W.subIn K (.ref E_TooLong) (.type "BaseException") = some true)
    (xy_TooLong : PySem.W.typeIn K (.ref E_TooLong) = some (.type "type"))
    (xd_TooLong : PySem.W.hasDictIn K E_TooLong = true)
    (xc_TooLong : PySem.W.isClsIn K E_TooLong = true)
    (xf_TooLong : K.lookup fe_TooLong = some ⟨oc_TooLong, od_TooLong, .func (PySem.W.fnOf "__init__" "TooLong.__init__" (PySem.Er.iA "total" p1_TooLong p2_TooLong) (PySem.Er.iB "total" q1_TooLong q2_TooLong q3_TooLong q4_TooLong) (PySem.Er.iS "total") .none .none dc_TooLong pm_TooLong an_TooLong cd_TooLong ct_TooLong), sl_TooLong⟩)
    (xq_TooLong : PySem.W.codeIn K cd_TooLong "TooLong.__init__" = true)
    (m_InvalidPlan_InvalidPlan : PySem.W.exmOne K (.ref E_InvalidPlan) (.ref E_InvalidPlan) = some true)
    (m_InvalidCounts_InvalidPlan : PySem.W.exmOne K (.ref E_InvalidCounts) (.ref E_InvalidPlan) = some false)
    (m_InvalidCounts_InvalidCounts : PySem.W.exmOne K (.ref E_InvalidCounts) (.ref E_InvalidCounts) = some true)
    (m_InvalidRun_InvalidPlan : PySem.W.exmOne K (.ref E_InvalidRun) (.ref E_InvalidPlan) = some false)
    (m_InvalidRun_InvalidCounts : PySem.W.exmOne K (.ref E_InvalidRun) (.ref E_InvalidCounts) = some false)
    (m_InvalidRun_InvalidRun : PySem.W.exmOne K (.ref E_InvalidRun) (.ref E_InvalidRun) = some true)
    (m_NotMoment_InvalidPlan : PySem.W.exmOne K (.ref E_NotMoment) (.ref E_InvalidPlan) = some false)
    (m_NotMoment_InvalidCounts : PySem.W.exmOne K (.ref E_NotMoment) (.ref E_InvalidCounts) = some false)
    (m_NotMoment_InvalidRun : PySem.W.exmOne K (.ref E_NotMoment) (.ref E_InvalidRun) = some false)
    (m_NotMoment_NotMoment : PySem.W.exmOne K (.ref E_NotMoment) (.ref E_NotMoment) = some true)
    (m_NotBehind_InvalidPlan : PySem.W.exmOne K (.ref E_NotBehind) (.ref E_InvalidPlan) = some false)
    (m_NotBehind_InvalidCounts : PySem.W.exmOne K (.ref E_NotBehind) (.ref E_InvalidCounts) = some false)
    (m_NotBehind_InvalidRun : PySem.W.exmOne K (.ref E_NotBehind) (.ref E_InvalidRun) = some false)
    (m_NotBehind_NotMoment : PySem.W.exmOne K (.ref E_NotBehind) (.ref E_NotMoment) = some false)
    (m_NotBehind_NotBehind : PySem.W.exmOne K (.ref E_NotBehind) (.ref E_NotBehind) = some true)
    (kt_NoneType : PySem.W.kitOne K (.type "NoneType") (.ref C) = some false)
    (kt_int : PySem.W.kitOne K (.type "int") (.ref C) = some false)
    (kt_bool : PySem.W.kitOne K (.type "bool") (.ref C) = some false)
    (kt_str : PySem.W.kitOne K (.type "str") (.ref C) = some false)
    (kt_list : PySem.W.kitOne K (.type "list") (.ref C) = some false)
    (kt_tuple : PySem.W.kitOne K (.type "tuple") (.ref C) = some false)
    (z_all : PySem.W.nsIn K mainGlobals "all" = some none)
    (z_any : PySem.W.nsIn K mainGlobals "any" = some none)
    (z_bool : PySem.W.nsIn K mainGlobals "bool" = some none)
    (z_dict : PySem.W.nsIn K mainGlobals "dict" = some none)
    (z_enumerate : PySem.W.nsIn K mainGlobals "enumerate" = some none)
    (z_int : PySem.W.nsIn K mainGlobals "int" = some none)
    (z_isinstance : PySem.W.nsIn K mainGlobals "isinstance" = some none)
    (z_len : PySem.W.nsIn K mainGlobals "len" = some none)
    (z_list : PySem.W.nsIn K mainGlobals "list" = some none)
    (z_max : PySem.W.nsIn K mainGlobals "max" = some none)
    (z_min : PySem.W.nsIn K mainGlobals "min" = some none)
    (z_range : PySem.W.nsIn K mainGlobals "range" = some none)
    (z_str : PySem.W.nsIn K mainGlobals "str" = some none)
    (z_sum : PySem.W.nsIn K mainGlobals "sum" = some none)
    (z_tuple : PySem.W.nsIn K mainGlobals "tuple" = some none)
    (z_LETTERS : PySem.W.nsIn K mainGlobals "LETTERS" = some (some (.str ("abcdefghijklmnopqrstuvwxyz" : Str) t_LETTERS)))
    (z_LONGEST_NAME : PySem.W.nsIn K mainGlobals "LONGEST_NAME" = some (some (.int 8 t_LONGEST_NAME)))
    (z_BILLION : PySem.W.nsIn K mainGlobals "BILLION" = some (some (.int 1000000000 t_BILLION)))
    (z_MOST_EVENTS : PySem.W.nsIn K mainGlobals "MOST_EVENTS" = some (some (.int 8 t_MOST_EVENTS)))
    (z_MOST_TIES : PySem.W.nsIn K mainGlobals "MOST_TIES" = some (some (.int 60 t_MOST_TIES)))
    (z_LONGEST_RUN : PySem.W.nsIn K mainGlobals "LONGEST_RUN" = some (some (.int 200 t_LONGEST_RUN))) :
    ∃ fd : FuncData, (∀ (s : Shared) (v : Value), BindsTo s fd ⟨[v], []⟩ [("_law_script", v)]) ∧ ∀ base : Heap, K.In base → base.Ns mainGlobals mg → FnOk l.prog w K mg base CX0 14 fa fd ["_law_script"] (spLaw K) := by
  have e := hfa.symm.trans (PySem.W.mg_of X G a_law)
  cases e
  have T : Txt mg := ⟨PySem.W.mg_none_of X G z_all, PySem.W.mg_none_of X G z_any, PySem.W.mg_none_of X G z_bool, PySem.W.mg_none_of X G z_dict, PySem.W.mg_none_of X G z_enumerate, PySem.W.mg_none_of X G z_int, PySem.W.mg_none_of X G z_isinstance, PySem.W.mg_none_of X G z_len, PySem.W.mg_none_of X G z_list, PySem.W.mg_none_of X G z_max, PySem.W.mg_none_of X G z_min, PySem.W.mg_none_of X G z_range, PySem.W.mg_none_of X G z_str, PySem.W.mg_none_of X G z_sum, PySem.W.mg_none_of X G z_tuple, ⟨_, PySem.W.mg_of X G z_LETTERS⟩, ⟨_, PySem.W.mg_of X G z_LONGEST_NAME⟩, ⟨_, PySem.W.mg_of X G z_BILLION⟩, ⟨_, PySem.W.mg_of X G z_MOST_EVENTS⟩, ⟨_, PySem.W.mg_of X G z_MOST_TIES⟩, ⟨_, PySem.W.mg_of X G z_LONGEST_RUN⟩⟩
  have F_is_integer := fun_mk (st := s_is_integer) l_is_integer c_is_integer k_is_integer
  have b_is_integer := F_is_integer.binds (ps := ["value"]) fun _ _ _ _ _ _ us hl => match us, hl with | [_], _ => rfl
  have F_is_count := fun_mk (st := s_is_count) l_is_count c_is_count k_is_count
  have b_is_count := F_is_count.binds (ps := ["value"]) fun _ _ _ _ _ _ us hl => match us, hl with | [_], _ => rfl
  have F_is_name := fun_mk (st := s_is_name) l_is_name c_is_name k_is_name
  have b_is_name := F_is_name.binds (ps := ["value"]) fun _ _ _ _ _ _ us hl => match us, hl with | [_], _ => rfl
  have F_need_events := fun_mk (st := s_need_events) l_need_events c_need_events k_need_events
  have b_need_events := F_need_events.binds (ps := ["events"]) fun _ _ _ _ _ _ us hl => match us, hl with | [_], _ => rfl
  have F_need_event := fun_mk (st := s_need_event) l_need_event c_need_event k_need_event
  have b_need_event := F_need_event.binds (ps := ["events", "event"]) fun _ _ _ _ _ _ us hl => match us, hl with | [_, _], _ => rfl
  have F_need_tie := fun_mk (st := s_need_tie) l_need_tie c_need_tie k_need_tie
  have b_need_tie := F_need_tie.binds (ps := ["events", "tie"]) fun _ _ _ _ _ _ us hl => match us, hl with | [_, _], _ => rfl
  have F_need_ties := fun_mk (st := s_need_ties) l_need_ties c_need_ties k_need_ties
  have b_need_ties := F_need_ties.binds (ps := ["events", "ties"]) fun _ _ _ _ _ _ us hl => match us, hl with | [_, _], _ => rfl
  have F_need_limits := fun_mk (st := s_need_limits) l_need_limits c_need_limits k_need_limits
  have b_need_limits := F_need_limits.binds (ps := ["events", "limits"]) fun _ _ _ _ _ _ us hl => match us, hl with | [_, _], _ => rfl
  have F_ringed := fun_mk (st := s_ringed) l_ringed c_ringed k_ringed
  have b_ringed := F_ringed.binds (ps := ["events", "ties"]) fun _ _ _ _ _ _ us hl => match us, hl with | [_, _], _ => rfl
  have F_need_plan := fun_mk (st := s_need_plan) l_need_plan c_need_plan k_need_plan
  have b_need_plan := F_need_plan.binds (ps := ["plan"]) fun _ _ _ _ _ _ us hl => match us, hl with | [_], _ => rfl
  have F_is_counts := fun_mk (st := s_is_counts) l_is_counts c_is_counts k_is_counts
  have b_is_counts := F_is_counts.binds (ps := ["plan", "value"]) fun _ _ _ _ _ _ us hl => match us, hl with | [_, _], _ => rfl
  have F_need_counts := fun_mk (st := s_need_counts) l_need_counts c_need_counts k_need_counts
  have b_need_counts := F_need_counts.binds (ps := ["plan", "value"]) fun _ _ _ _ _ _ us hl => match us, hl with | [_, _], _ => rfl
  have F_barred := fun_mk (st := s_barred) l_barred c_barred k_barred
  have b_barred := F_barred.binds (ps := ["plan", "counts"]) fun _ _ _ _ _ _ us hl => match us, hl with | [_, _], _ => rfl
  have F_is_moment := fun_mk (st := s_is_moment) l_is_moment c_is_moment k_is_moment
  have b_is_moment := F_is_moment.binds (ps := ["plan", "counts"]) fun _ _ _ _ _ _ us hl => match us, hl with | [_, _], _ => rfl
  have F_need_moment := fun_mk (st := s_need_moment) l_need_moment c_need_moment k_need_moment
  have b_need_moment := F_need_moment.binds (ps := ["plan", "counts"]) fun _ _ _ _ _ _ us hl => match us, hl with | [_, _], _ => rfl
  have F_stepped := fun_mk (st := s_stepped) l_stepped c_stepped k_stepped
  have b_stepped := F_stepped.binds (ps := ["counts", "event", "step"]) fun _ _ _ _ _ _ us hl => match us, hl with | [_, _, _], _ => rfl
  have F_come := fun_mk (st := s_come) l_come c_come k_come
  have b_come := F_come.binds (ps := ["plan", "counts"]) fun _ _ _ _ _ _ us hl => match us, hl with | [_, _], _ => rfl
  have F_came := fun_mk (st := s_came) l_came c_came k_came
  have b_came := F_came.binds (ps := ["plan", "counts"]) fun _ _ _ _ _ _ us hl => match us, hl with | [_, _], _ => rfl
  have F_need_two_counts := fun_mk (st := s_need_two_counts) l_need_two_counts c_need_two_counts k_need_two_counts
  have b_need_two_counts := F_need_two_counts.binds (ps := ["plan", "one", "other"]) fun _ _ _ _ _ _ us hl => match us, hl with | [_, _, _], _ => rfl
  have F_higher := fun_mk (st := s_higher) l_higher c_higher k_higher
  have b_higher := F_higher.binds (ps := ["plan", "one", "other"]) fun _ _ _ _ _ _ us hl => match us, hl with | [_, _, _], _ => rfl
  have F_lower := fun_mk (st := s_lower) l_lower c_lower k_lower
  have b_lower := F_lower.binds (ps := ["plan", "one", "other"]) fun _ _ _ _ _ _ us hl => match us, hl with | [_, _, _], _ => rfl
  have F_beginning := fun_mk (st := s_beginning) l_beginning c_beginning k_beginning
  have b_beginning := F_beginning.binds (ps := ["plan", "begin"]) fun _ _ _ _ _ _ us hl => match us, hl with | [_, _], _ => rfl
  have F_need_run := fun_mk (st := s_need_run) l_need_run c_need_run k_need_run
  have b_need_run := F_need_run.binds (ps := ["plan", "run"]) fun _ _ _ _ _ _ us hl => match us, hl with | [_, _], _ => rfl
  have F_waits := fun_mk (st := s_waits) l_waits c_waits k_waits
  have b_waits := F_waits.binds (ps := ["plan"]) fun _ _ _ _ _ _ us hl => match us, hl with | [_], _ => rfl
  have F_is_ready := fun_mk (st := s_is_ready) l_is_ready c_is_ready k_is_ready
  have b_is_ready := F_is_ready.binds (ps := ["awaited", "counts", "event"]) fun _ _ _ _ _ _ us hl => match us, hl with | [_, _, _], _ => rfl
  have F_next_towards := fun_mk (st := s_next_towards) l_next_towards c_next_towards k_next_towards
  have b_next_towards := F_next_towards.binds (ps := ["awaited", "counts", "goal"]) fun _ _ _ _ _ _ us hl => match us, hl with | [_, _, _], _ => rfl
  have F_way_between := fun_mk (st := s_way_between) l_way_between c_way_between k_way_between
  have b_way_between := F_way_between.binds (ps := ["plan", "begin", "goal"]) fun _ _ _ _ _ _ us hl => match us, hl with | [_, _, _], _ => rfl
  have F__law_cell := fun_mk (st := s_law_cell) l__law_cell c__law_cell k__law_cell
  have b__law_cell := F__law_cell.binds (ps := ["_law_script", "_law_k"]) fun _ _ _ _ _ _ us hl => match us, hl with | [_, _], _ => rfl
  have F__law_box := fun_mk (st := s_law_box) l__law_box c__law_box k__law_box
  have b__law_box := F__law_box.binds (ps := ["_law_cell_here"]) fun _ _ _ _ _ _ us hl => match us, hl with | [_], _ => rfl
  have F__law_take := fun_mk (st := s_law_take) l__law_take c__law_take k__law_take
  have b__law_take := F__law_take.binds (ps := ["_law_box_here", "_law_many"]) fun _ _ _ _ _ _ us hl => match us, hl with | [_, _], _ => rfl
  have F__law_names := fun_mk (st := s_law_names) l__law_names c__law_names k__law_names
  have b__law_names := F__law_names.binds (ps := ["_law_box_here", "_law_many"]) fun _ _ _ _ _ _ us hl => match us, hl with | [_, _], _ => rfl
  have F__law_shuffled := fun_mk (st := s_law_shuffled) l__law_shuffled c__law_shuffled k__law_shuffled
  have b__law_shuffled := F__law_shuffled.binds (ps := ["_law_box_here", "_law_row"]) fun _ _ _ _ _ _ us hl => match us, hl with | [_, _], _ => rfl
  have F__law_plan := fun_mk (st := s_law_plan) l__law_plan c__law_plan k__law_plan
  have b__law_plan := F__law_plan.binds (ps := ["_law_box_here", "_law_most", "_law_great", "_law_limited"]) fun _ _ _ _ _ _ us hl => match us, hl with | [_, _, _, _], _ => rfl
  have F__law_made := fun_mk (st := s_law_made) l__law_made c__law_made k__law_made
  have b__law_made := F__law_made.binds (ps := ["_law_box_here", "_law_model"]) fun _ _ _ _ _ _ us hl => match us, hl with | [_, _], _ => rfl
  have F__law_broken := fun_mk (st := s_law_broken) l__law_broken c__law_broken k__law_broken
  have b__law_broken := F__law_broken.binds (ps := ["_law_model", "_law_counts"]) fun _ _ _ _ _ _ us hl => match us, hl with | [_, _], _ => rfl
  have F__law_zero := fun_mk (st := s_law_zero) l__law_zero c__law_zero k__law_zero
  have b__law_zero := F__law_zero.binds (ps := ["_law_model"]) fun _ _ _ _ _ _ us hl => match us, hl with | [_], _ => rfl
  have F__law_with := fun_mk (st := s_law_with) l__law_with c__law_with k__law_with
  have b__law_with := F__law_with.binds (ps := ["_law_counts", "_law_event", "_law_step"]) fun _ _ _ _ _ _ us hl => match us, hl with | [_, _, _], _ => rfl
  have F__law_run := fun_mk (st := s_law_run) l__law_run c__law_run k__law_run
  have b__law_run := F__law_run.binds (ps := ["_law_box_here", "_law_model", "_law_counts", "_law_many"]) fun _ _ _ _ _ _ us hl => match us, hl with | [_, _, _, _], _ => rfl
  have F__law_turned := fun_mk (st := s_law_turned) l__law_turned c__law_turned k__law_turned
  have b__law_turned := F__law_turned.binds (ps := ["_law_box_here", "_law_counts"]) fun _ _ _ _ _ _ us hl => match us, hl with | [_, _], _ => rfl
  have F__law_called := fun_mk (st := s_law_called) l__law_called c__law_called k__law_called
  have b__law_called := F__law_called.binds (ps := ["_law_way", "_law_one", "_law_two", "_law_three"]) fun _ _ _ _ _ _ us hl => match us, hl with | [_, _, _, _], _ => rfl
  have F__law_refused := fun_mk (st := s_law_refused) l__law_refused c__law_refused k__law_refused
  have b__law_refused := F__law_refused.binds (ps := ["_law_way", "_law_one", "_law_two", "_law_three"]) fun _ _ _ _ _ _ us hl => match us, hl with | [_, _, _, _], _ => rfl
  have F__law_rest_right := fun_mk (st := s_law_rest_right) l__law_rest_right c__law_rest_right k__law_rest_right
  have b__law_rest_right := F__law_rest_right.binds (ps := ["_law_box_here", "_law_model", "_law_plan_here", "_law_had", "_law_odds"]) fun _ _ _ _ _ _ us hl => match us, hl with | [_, _, _, _, _], _ => rfl
  have F__law_right := fun_mk (st := s_law_right) l__law_right c__law_right k__law_right
  have b__law_right := F__law_right.binds (ps := ["_law_box_here"]) fun _ _ _ _ _ _ us hl => match us, hl with | [_], _ => rfl
  have F_law := fun_mk (st := s_law) l_law c_law k_law
  have F_behind : FunD K "behind" "behind" (defArgs s_behind) (defBody s_behind) (defScope s_behind) [] [("begin", .non)] f_behind _ := ⟨⟨oc_behind, od_behind, .none, .ref kD_behind, dc_behind, pm_behind, an_behind, cd_behind, ct_behind, sl_behind, rfl, l_behind, c_behind, .inl ⟨rfl, rfl⟩, .inr ⟨kD_behind, rfl, fun q hq => by
    simp only [List.mem_cons, List.not_mem_nil, or_false] at hq
    rcases hq with rfl
    exact ⟨.none, w_behind, rfl⟩⟩⟩, k_behind⟩
  obtain ⟨m_behind, kb_behind⟩ := kb0 F_behind (ps := ["plan", "run", "begin"]) 2 ["begin"] [] (fun us mv ws => us ++ ws) (by simp) (fun q hq => nomatch hq) (fun r1 r2 r3 => r1.append r3) fun D doc pm an cdv ct us mv ws h1 h2 h3 => match us, mv, ws, h1, h2, h3 with
    | [_, _], [], [_], _, _, _ => rfl
  have F_run_to : FunD K "run_to" "run_to" (defArgs s_run_to) (defBody s_run_to) (defScope s_run_to) [] [("begin", .non)] f_run_to _ := ⟨⟨oc_run_to, od_run_to, .none, .ref kD_run_to, dc_run_to, pm_run_to, an_run_to, cd_run_to, ct_run_to, sl_run_to, rfl, l_run_to, c_run_to, .inl ⟨rfl, rfl⟩, .inr ⟨kD_run_to, rfl, fun q hq => by
    simp only [List.mem_cons, List.not_mem_nil, or_false] at hq
    rcases hq with rfl
    exact ⟨.none, w_run_to, rfl⟩⟩⟩, k_run_to⟩
  obtain ⟨m_run_to, kb_run_to⟩ := kb0 F_run_to (ps := ["plan", "counts", "begin"]) 2 ["begin"] [] (fun us mv ws => us ++ ws) (by simp) (fun q hq => nomatch hq) (fun r1 r2 r3 => r1.append r3) fun D doc pm an cdv ct us mv ws h1 h2 h3 => match us, mv, ws, h1, h2, h3 with
    | [_, _], [], [_], _, _, _ => rfl
  have CC : Cls K C := ⟨pgC, hdC, poC, saC⟩
  have F_Plan_events := fun_mk (st := s_Plan_events) l_Plan_events c_Plan_events k_Plan_events
  have b_Plan_events := F_Plan_events.binds (ps := ["self"]) fun _ _ _ _ _ _ us hl => match us, hl with | [_], _ => rfl
  have F_Plan_ties := fun_mk (st := s_Plan_ties) l_Plan_ties c_Plan_ties k_Plan_ties
  have b_Plan_ties := F_Plan_ties.binds (ps := ["self"]) fun _ _ _ _ _ _ us hl => match us, hl with | [_], _ => rfl
  have F_Plan_limits := fun_mk (st := s_Plan_limits) l_Plan_limits c_Plan_limits k_Plan_limits
  have b_Plan_limits := F_Plan_limits.binds (ps := ["self"]) fun _ _ _ _ _ _ us hl => match us, hl with | [_], _ => rfl
  have F_Plan___len__ := fun_mk (st := s_Plan___len__) l_Plan___len__ c_Plan___len__ k_Plan___len__
  have b_Plan___len__ := F_Plan___len__.binds (ps := ["self"]) fun _ _ _ _ _ _ us hl => match us, hl with | [_], _ => rfl
  have F_Plan___contains__ := fun_mk (st := s_Plan___contains__) l_Plan___contains__ c_Plan___contains__ k_Plan___contains__
  have b_Plan___contains__ := F_Plan___contains__.binds (ps := ["self", "value"]) fun _ _ _ _ _ _ us hl => match us, hl with | [_, _], _ => rfl
  have F_init : FunD K "__init__" "Plan.__init__" (defArgs s_Plan___init__) (defBody s_Plan___init__) (defScope s_Plan___init__) [.ref U_init] [("limits", .non)] f_init _ := ⟨⟨oc_init, od_init, .ref T_init, .ref kD_init, dc_init, pm_init, an_init, cd_init, ct_init, sl_init, rfl, l_init, c_init, .inr ⟨by simp, T_init, _, [Value.ref U_init], nT, rfl, t_init, rfl, .cons rfl .nil⟩, .inr ⟨kD_init, rfl, fun q hq => by
    simp only [List.mem_cons, List.not_mem_nil, or_false] at hq
    rcases hq with rfl
    exact ⟨.none, w_init, rfl⟩⟩⟩, k_init⟩
  obtain ⟨d_init, rd_init, b_init⟩ := F_init.binds (ps := ["self", "events", "ties", "limits"]) 3 1 (by simp) rfl (fun T D doc pm an cdv ct us its ks h1 h2 h3 => match us, its, ks, h1, h2, h3 with
    | [_, _, _], [_], [_], _, _, _ => ⟨_, rfl, _, _, _, _, _, _, rfl, rfl, rfl⟩) (by simp)
  obtain ⟨d1_init, rd1_init, b1_init⟩ := F_init.binds (ps := ["self", "events", "ties", "limits"]) 2 0 (by simp) rfl (fun T D doc pm an cdv ct us its ks h1 h2 h3 => match us, its, ks, h1, h2, h3 with
    | [_, _], [_], [_], _, _, _ => ⟨_, rfl, _, _, _, _, _, _, rfl, rfl, rfl⟩) (by simp)
  obtain ⟨j_init, m_init, kb_init⟩ := F_init.kbinds (ps := ["self", "events", "ties", "limits"]) 3 ["limits"] [] (fun us its mv ws => us ++ ws) (by simp) (by simp) (fun q hq => nomatch hq) (fun r1 r2 r3 r4 => r1.append r4) fun T D doc pm an cdv ct us its mv ws h1 h2 h3 h4 => match us, its, mv, ws, h1, h2, h3, h4 with
    | [_, _, _], [_], [], [_], _, _, _, _ => ⟨_, rfl, rfl⟩
  have e_InvalidPlan : ErrTxt K mg "InvalidPlan" "value" E_InvalidPlan fe_InvalidPlan := { ff := by decide, gC := PySem.W.mg_of X G xa_InvalidPlan, cls := ⟨nm_InvalidPlan, q_InvalidPlan, N_InvalidPlan, bs_InvalidPlan, bm_InvalidPlan, sn_InvalidPlan, sb_InvalidPlan, ab_InvalidPlan, co_InvalidPlan, dd_InvalidPlan, k0_InvalidPlan, k1_InvalidPlan, k2_InvalidPlan, k3_InvalidPlan, k5_InvalidPlan, .inl ⟨xl_InvalidPlan, xu_InvalidPlan⟩⟩, over := .inl xo_InvalidPlan, sa := xs_InvalidPlan, ga := xg_InvalidPlan, gg := xh_InvalidPlan, noN := xn_InvalidPlan, iC := xi_InvalidPlan, tC := xt_InvalidPlan, kC := xk_InvalidPlan, exC := xe_InvalidPlan, tyC := xy_InvalidPlan, hdC := xd_InvalidPlan, isC := xc_InvalidPlan, fn := ⟨_, _, _, _, _, _, _, _, _, _, _, _, _, _, _, xf_InvalidPlan, xq_InvalidPlan⟩ }
  have e_InvalidCounts : ErrTxt K mg "InvalidCounts" "value" E_InvalidCounts fe_InvalidCounts := { ff := by decide, gC := PySem.W.mg_of X G xa_InvalidCounts, cls := ⟨nm_InvalidCounts, q_InvalidCounts, N_InvalidCounts, bs_InvalidCounts, bm_InvalidCounts, sn_InvalidCounts, sb_InvalidCounts, ab_InvalidCounts, co_InvalidCounts, dd_InvalidCounts, k0_InvalidCounts, k1_InvalidCounts, k2_InvalidCounts, k3_InvalidCounts, k5_InvalidCounts, .inl ⟨xl_InvalidCounts, xu_InvalidCounts⟩⟩, over := .inl xo_InvalidCounts, sa := xs_InvalidCounts, ga := xg_InvalidCounts, gg := xh_InvalidCounts, noN := xn_InvalidCounts, iC := xi_InvalidCounts, tC := xt_InvalidCounts, kC := xk_InvalidCounts, exC := xe_InvalidCounts, tyC := xy_InvalidCounts, hdC := xd_InvalidCounts, isC := xc_InvalidCounts, fn := ⟨_, _, _, _, _, _, _, _, _, _, _, _, _, _, _, xf_InvalidCounts, xq_InvalidCounts⟩ }
  have e_InvalidRun : ErrTxt K mg "InvalidRun" "value" E_InvalidRun fe_InvalidRun := { ff := by decide, gC := PySem.W.mg_of X G xa_InvalidRun, cls := ⟨nm_InvalidRun, q_InvalidRun, N_InvalidRun, bs_InvalidRun, bm_InvalidRun, sn_InvalidRun, sb_InvalidRun, ab_InvalidRun, co_InvalidRun, dd_InvalidRun, k0_InvalidRun, k1_InvalidRun, k2_InvalidRun, k3_InvalidRun, k5_InvalidRun, .inl ⟨xl_InvalidRun, xu_InvalidRun⟩⟩, over := .inl xo_InvalidRun, sa := xs_InvalidRun, ga := xg_InvalidRun, gg := xh_InvalidRun, noN := xn_InvalidRun, iC := xi_InvalidRun, tC := xt_InvalidRun, kC := xk_InvalidRun, exC := xe_InvalidRun, tyC := xy_InvalidRun, hdC := xd_InvalidRun, isC := xc_InvalidRun, fn := ⟨_, _, _, _, _, _, _, _, _, _, _, _, _, _, _, xf_InvalidRun, xq_InvalidRun⟩ }
  have e_NotMoment : ErrTxt K mg "NotMoment" "value" E_NotMoment fe_NotMoment := { ff := by decide, gC := PySem.W.mg_of X G xa_NotMoment, cls := ⟨nm_NotMoment, q_NotMoment, N_NotMoment, bs_NotMoment, bm_NotMoment, sn_NotMoment, sb_NotMoment, ab_NotMoment, co_NotMoment, dd_NotMoment, k0_NotMoment, k1_NotMoment, k2_NotMoment, k3_NotMoment, k5_NotMoment, .inr ⟨xl_NotMoment, xu_NotMoment⟩⟩, over := .inr (.inl xo_NotMoment), sa := xs_NotMoment, ga := xg_NotMoment, gg := xh_NotMoment, noN := xn_NotMoment, iC := xi_NotMoment, tC := xt_NotMoment, kC := xk_NotMoment, exC := xe_NotMoment, tyC := xy_NotMoment, hdC := xd_NotMoment, isC := xc_NotMoment, fn := ⟨_, _, _, _, _, _, _, _, _, _, _, _, _, _, _, xf_NotMoment, xq_NotMoment⟩ }
  have e_NotBehind : ErrTxt K mg "NotBehind" "value" E_NotBehind fe_NotBehind := { ff := by decide, gC := PySem.W.mg_of X G xa_NotBehind, cls := ⟨nm_NotBehind, q_NotBehind, N_NotBehind, bs_NotBehind, bm_NotBehind, sn_NotBehind, sb_NotBehind, ab_NotBehind, co_NotBehind, dd_NotBehind, k0_NotBehind, k1_NotBehind, k2_NotBehind, k3_NotBehind, k5_NotBehind, .inr ⟨xl_NotBehind, xu_NotBehind⟩⟩, over := .inr (.inl xo_NotBehind), sa := xs_NotBehind, ga := xg_NotBehind, gg := xh_NotBehind, noN := xn_NotBehind, iC := xi_NotBehind, tC := xt_NotBehind, kC := xk_NotBehind, exC := xe_NotBehind, tyC := xy_NotBehind, hdC := xd_NotBehind, isC := xc_NotBehind, fn := ⟨_, _, _, _, _, _, _, _, _, _, _, _, _, _, _, xf_NotBehind, xq_NotBehind⟩ }
  have e_Barred : ErrTxt K mg "Barred" "index" E_Barred fe_Barred := { ff := by decide, gC := PySem.W.mg_of X G xa_Barred, cls := ⟨nm_Barred, q_Barred, N_Barred, bs_Barred, bm_Barred, sn_Barred, sb_Barred, ab_Barred, co_Barred, dd_Barred, k0_Barred, k1_Barred, k2_Barred, k3_Barred, k5_Barred, .inr ⟨xl_Barred, xu_Barred⟩⟩, over := .inr (.inl xo_Barred), sa := xs_Barred, ga := xg_Barred, gg := xh_Barred, noN := xn_Barred, iC := xi_Barred, tC := xt_Barred, kC := xk_Barred, exC := xe_Barred, tyC := xy_Barred, hdC := xd_Barred, isC := xc_Barred, fn := ⟨_, _, _, _, _, _, _, _, _, _, _, _, _, _, _, xf_Barred, xq_Barred⟩ }
  have e_TooLong : ErrTxt K mg "TooLong" "total" E_TooLong fe_TooLong := { ff := by decide, gC := PySem.W.mg_of X G xa_TooLong, cls := ⟨nm_TooLong, q_TooLong, N_TooLong, bs_TooLong, bm_TooLong, sn_TooLong, sb_TooLong, ab_TooLong, co_TooLong, dd_TooLong, k0_TooLong, k1_TooLong, k2_TooLong, k3_TooLong, k5_TooLong, .inr ⟨xl_TooLong, xu_TooLong⟩⟩, over := .inr (.inl xo_TooLong), sa := xs_TooLong, ga := xg_TooLong, gg := xh_TooLong, noN := xn_TooLong, iC := xi_TooLong, tC := xt_TooLong, kC := xk_TooLong, exC := xe_TooLong, tyC := xy_TooLong, hdC := xd_TooLong, isC := xc_TooLong, fn := ⟨_, _, _, _, _, _, _, _, _, _, _, _, _, _, _, xf_TooLong, xq_TooLong⟩ }
  refine ⟨PySem.W.fnOf "law" "law" (defArgs s_law) (defBody s_law) (defScope s_law) .none kV_law dc_law pm_law an_law cd_law ct_law, fun s v => .of_eq rfl, fun base _ _ => ?_⟩
  have PC : PlanC K C := ⟨CC, n_order, n_rows, n_caps⟩
  have PI : PlanI K C := ⟨PC, haC, hnC, htC, hmC, isC⟩
  have m_Plan := PySem.W.mg_of X G aC
  let a : Addrs := ⟨C, E_InvalidPlan, E_InvalidCounts, E_NotMoment, E_InvalidRun, E_Barred, E_NotBehind, E_TooLong⟩
  have KP : KitP K a.C := ⟨fun t ht => by
    simp only [kinds6, List.mem_cons, List.not_mem_nil, or_false] at ht
    rcases ht with rfl | rfl | rfl | rfl | rfl | rfl
    · exact kt_NoneType
    · exact kt_int
    · exact kt_bool
    · exact kt_str
    · exact kt_list
    · exact kt_tuple⟩
  have X5 : Exm K a := ⟨m_InvalidPlan_InvalidPlan, m_InvalidCounts_InvalidPlan, m_InvalidCounts_InvalidCounts, m_InvalidRun_InvalidPlan, m_InvalidRun_InvalidCounts, m_InvalidRun_InvalidRun, m_NotMoment_InvalidPlan, m_NotMoment_InvalidCounts, m_NotMoment_InvalidRun, m_NotMoment_NotMoment, m_NotBehind_InvalidPlan, m_NotBehind_InvalidCounts, m_NotBehind_InvalidRun, m_NotBehind_NotMoment, m_NotBehind_NotBehind⟩
  have cint := Cal.mk0 (ok_is_integer (P := l.prog) (w := w) (base := base) F_is_integer T) (PySem.W.mg_of X G a_is_integer) F_is_integer.kp b_is_integer
  have ccnt := Cal.mk0 (ok_is_count (P := l.prog) (w := w) (base := base) F_is_count T cint) (PySem.W.mg_of X G a_is_count) F_is_count.kp b_is_count
  have cname := Cal.mk0 (ok_is_name (P := l.prog) (w := w) (base := base) F_is_name T) (PySem.W.mg_of X G a_is_name) F_is_name.kp b_is_name
  have cnevs := Cal.mk0 (ok_need_events (P := l.prog) (w := w) (base := base) F_need_events T cname) (PySem.W.mg_of X G a_need_events) F_need_events.kp b_need_events
  have cnev := Cal.mk0 (ok_need_event (P := l.prog) (w := w) (K := K) (base := base) F_need_event T) (PySem.W.mg_of X G a_need_event) F_need_event.kp b_need_event
  have cntie := Cal.mk0 (ok_need_tie (P := l.prog) (w := w) (base := base) F_need_tie T cnev ccnt) (PySem.W.mg_of X G a_need_tie) F_need_tie.kp b_need_tie
  have cnties := Cal.mk0 (ok_need_ties (P := l.prog) (w := w) (base := base) F_need_ties T cntie) (PySem.W.mg_of X G a_need_ties) F_need_ties.kp b_need_ties
  have cnlims := Cal.mk0 (ok_need_limits (P := l.prog) (w := w) (base := base) F_need_limits T ccnt) (PySem.W.mg_of X G a_need_limits) F_need_limits.kp b_need_limits
  have cring := Cal.mk0 (ok_ringed (P := l.prog) (w := w) (K := K) (base := base) F_ringed T) (PySem.W.mg_of X G a_ringed) F_ringed.kp b_ringed
  have cPlan : CalMk l.prog w K mg base CX0 5 "Plan" C "limits" (spInit K C) := ⟨f_init, _, _, d_init, _, ⟨mkC, a_init, i_init, kpC⟩, ok_init F_init T PC cnevs cnties cnlims cring, m_Plan, b_init, rd_init, kb_init⟩
  have mEvents : CalM l.prog w K mg base 1 C "events" (spPEvents K C) := ⟨f_Plan_events, _, _, ok_p_events F_Plan_events T PC, b_Plan_events, a_Plan_events, i_Plan_events, k_Plan_events⟩
  have mTies : CalM l.prog w K mg base 1 C "ties" (spPTies K C) := ⟨f_Plan_ties, _, _, ok_p_ties F_Plan_ties T PC, b_Plan_ties, a_Plan_ties, i_Plan_ties, k_Plan_ties⟩
  have mLimits : CalM l.prog w K mg base 1 C "limits" (spPLimits K C) := ⟨f_Plan_limits, _, _, ok_p_limits F_Plan_limits T PC, b_Plan_limits, a_Plan_limits, i_Plan_limits, k_Plan_limits⟩
  have mLen : CalM l.prog w K mg base 1 C "__len__" (spPLen K C) := ⟨f_Plan___len__, _, _, ok_p_len F_Plan___len__ T PC, b_Plan___len__, a_Plan___len__, i_Plan___len__, k_Plan___len__⟩
  have mIn : CalM l.prog w K mg base 1 C "__contains__" (spPIn K C) := ⟨f_Plan___contains__, _, _, ok_p_in F_Plan___contains__ T PC, b_Plan___contains__, a_Plan___contains__, i_Plan___contains__, k_Plan___contains__⟩
  have G0 := ok_need_plan (P := l.prog) (w := w) (base := base) F_need_plan T PI m_Plan e_InvalidPlan
  have cnp := CalX.mk0 G0 (PySem.W.mg_of X G a_need_plan) F_need_plan.kp b_need_plan
  have G1 := ok_is_counts F_is_counts T PI cnp mLen mEvents ccnt
  have ciscs := CalX.mk0 G1 (PySem.W.mg_of X G a_is_counts) F_is_counts.kp b_is_counts
  have cncs := CalX.mk0 (ok_need_counts F_need_counts T ciscs e_InvalidCounts) (PySem.W.mg_of X G a_need_counts) F_need_counts.kp b_need_counts
  have G2 := ok_barred F_barred T PI cncs mTies mLimits mEvents
  have cbar := CalX.mk0 G2 (PySem.W.mg_of X G a_barred) F_barred.kp b_barred
  have G3 := ok_is_moment F_is_moment T cbar
  have cism := CalX.mk0 G3 (PySem.W.mg_of X G a_is_moment) F_is_moment.kp b_is_moment
  have cnm := CalX.mk0 (ok_need_moment F_need_moment T cism e_NotMoment) (PySem.W.mg_of X G a_need_moment) F_need_moment.kp b_need_moment
  have cst := Cal.mk0 (ok_stepped (P := l.prog) (w := w) (K := K) (base := base) F_stepped T) (PySem.W.mg_of X G a_stepped) F_stepped.kp b_stepped
  have G4 := ok_come F_come T PI cnm cism cst mEvents
  have G5 := ok_came F_came T PI cnm cism cst mEvents
  have cn2 := CalX.mk0 (ok_need_two F_need_two_counts T cncs) (PySem.W.mg_of X G a_need_two_counts) F_need_two_counts.kp b_need_two_counts
  have G6 := ok_higher F_higher T PI mEvents cn2
  have G7 := ok_lower F_lower T PI mEvents cn2
  have cbeg := CalX.mk0 (ok_beginning F_beginning T PI mEvents cnm) (PySem.W.mg_of X G a_beginning) F_beginning.kp b_beginning
  have cnr := CalX.mk0 (ok_need_run F_need_run T mIn e_InvalidRun) (PySem.W.mg_of X G a_need_run) F_need_run.kp b_need_run
  have cwt := Cal.mk0 (ok_waits (P := l.prog) (w := w) (K := K) (base := base) F_waits T PI mTies mEvents) (PySem.W.mg_of X G a_waits) F_waits.kp b_waits
  have crd := Cal.mk0 (ok_is_ready (P := l.prog) (w := w) (K := K) (base := base) F_is_ready T) (PySem.W.mg_of X G a_is_ready) F_is_ready.kp b_is_ready
  have cnx := Cal.mk0 (ok_next F_next_towards T crd) (PySem.W.mg_of X G a_next_towards) F_next_towards.kp b_next_towards
  have cway := Cal.mk0 (ok_way F_way_between T cwt cnx) (PySem.W.mg_of X G a_way_between) F_way_between.kp b_way_between
  have G8 := ok_behind F_behind T cnp cnr cbeg cwt crd PI mLimits e_Barred
  have G9 := ok_run_to F_run_to T PI cnm cbeg cway mEvents e_NotBehind e_TooLong
  have ccell := Cal.mk0 (ok_cell (P := l.prog) (w := w) (K := K) (base := base) F__law_cell T) (PySem.W.mg_of X G a__law_cell) F__law_cell.kp b__law_cell
  have cbox := Cal.mk0 (ok_box (P := l.prog) (w := w) (K := K) (base := base) F__law_box T) (PySem.W.mg_of X G a__law_box) F__law_box.kp b__law_box
  have ctake := Cal.mk0 (ok_take (P := l.prog) (w := w) (K := K) (base := base) F__law_take T) (PySem.W.mg_of X G a__law_take) F__law_take.kp b__law_take
  have cnames := Cal.mk0 (ok_names F__law_names T ctake) (PySem.W.mg_of X G a__law_names) F__law_names.kp b__law_names
  have cshuf := Cal.mk0 (ok_shuffled F__law_shuffled T ctake) (PySem.W.mg_of X G a__law_shuffled) F__law_shuffled.kp b__law_shuffled
  have cplan := Cal.mk0 (ok_plan F__law_plan T ctake cnames cshuf) (PySem.W.mg_of X G a__law_plan) F__law_plan.kp b__law_plan
  have cmade := Cal.mk0 (ok_made F__law_made T ctake cPlan) (PySem.W.mg_of X G a__law_made) F__law_made.kp b__law_made
  have cbrok := Cal.mk0 (ok_broken (P := l.prog) (w := w) (K := K) (base := base) F__law_broken T) (PySem.W.mg_of X G a__law_broken) F__law_broken.kp b__law_broken
  have czero := Cal.mk0 (ok_zero (P := l.prog) (w := w) (K := K) (base := base) F__law_zero T) (PySem.W.mg_of X G a__law_zero) F__law_zero.kp b__law_zero
  have cwith := Cal.mk0 (ok_with (P := l.prog) (w := w) (K := K) (base := base) F__law_with T) (PySem.W.mg_of X G a__law_with) F__law_with.kp b__law_with
  have crun := Cal.mk0 (ok_run F__law_run T ctake cwith cbrok) (PySem.W.mg_of X G a__law_run) F__law_run.kp b__law_run
  have cturn := Cal.mk0 (ok_turned F__law_turned T cshuf) (PySem.W.mg_of X G a__law_turned) F__law_turned.kp b__law_turned
  have ccalled := CalX.mk0 (FnOk.up (ok_called (a := a) F__law_called T (PySem.W.mg_of X G a_is_counts) (PySem.W.mg_of X G a_is_moment) (PySem.W.mg_of X G a_barred) (PySem.W.mg_of X G a_come) (PySem.W.mg_of X G a_came) (PySem.W.mg_of X G a_higher) (PySem.W.mg_of X G a_lower)
    ⟨3, _, _, by decide, G1, F_is_counts.kp, b_is_counts⟩ ⟨6, _, _, by decide, G3, F_is_moment.kp, b_is_moment⟩ ⟨5, _, _, by decide, G2, F_barred.kp, b_barred⟩ ⟨8, _, _, by decide, G4, F_come.kp, b_come⟩ ⟨8, _, _, by decide, G5, F_came.kp, b_came⟩
    ⟨6, _, _, by decide, G6, F_higher.kp, b_higher⟩ ⟨6, _, _, by decide, G7, F_lower.kp, b_lower⟩ ⟨f_behind, _, _, _, G8, PySem.W.mg_of X G a_behind, F_behind.kp, kb_behind⟩ ⟨f_run_to, _, _, _, G9, PySem.W.mg_of X G a_run_to, F_run_to.kp, kb_run_to⟩) cxUp) (PySem.W.mg_of X G a__law_called) F__law_called.kp b__law_called
  have cref := Cal.mk0 (ok_refused (a := a) F__law_refused T X5 ccalled e_InvalidPlan e_InvalidCounts e_InvalidRun e_NotMoment e_NotBehind) (PySem.W.mg_of X G a__law_refused) F__law_refused.kp b__law_refused
  have crest := Cal.mk0 (ok_rest (a := a) F__law_rest_right T KP cref cism ciscs) (PySem.W.mg_of X G a__law_rest_right) F__law_rest_right.kp b__law_rest_right
  have cright := Cal.mk0 (ok_right (a := a) F__law_right T KP ctake cplan cmade czero crun cturn cref crest) (PySem.W.mg_of X G a__law_right) F__law_right.kp b__law_right
  exact ok_law F_law T ccell cbox cright
end Pk
open PySem PySem.W PyProof.Rows
set_option maxHeartbeats 0 in
theorem PySem.Challenge.cw_pileups_k24_moments_refused_holds : PySem.Challenge.rw_pileups_k24_moments_refused.Holds := by
  w_on; o_law; k_head; (case hw => w_witness2)
  k_fill
  refine L2.walk_of (l := PySem.Challenge.rw_pileups_k24_moments_refused) (n := 63) (k := 14) (x := "_law_script") (CX := fun _ => L2.CX0) (sp := fun w => Pk.spLaw _) rfl (by decide) rfl ⟨rfl, by decide, by decide⟩ (fun w h Y => PySem.W.kIn_of Y) ?F (fun _ _ a ns hl _ hS => ⟨a, ns, rfl, hS, hl, fun _ => rfl⟩) (fun _ _ _ _ _ h => h)
  case F =>
    intro w mg fa h KX G hmg
    refine' Pk.all_mk KX G hmg ?a_is_integer ?l_is_integer ?c_is_integer ?k_is_integer ?a_is_count ?l_is_count ?c_is_count ?k_is_count ?a_is_name ?l_is_name ?c_is_name ?k_is_name ?a_need_events ?l_need_events ?c_need_events ?k_need_events ?a_need_event ?l_need_event ?c_need_event ?k_need_event ?a_need_tie ?l_need_tie ?c_need_tie ?k_need_tie ?a_need_ties ?l_need_ties ?c_need_ties ?k_need_ties ?a_need_limits ?l_need_limits ?c_need_limits ?k_need_limits ?a_ringed ?l_ringed ?c_ringed ?k_ringed ?a_need_plan ?l_need_plan ?c_need_plan ?k_need_plan ?a_is_counts ?l_is_counts ?c_is_counts ?k_is_counts ?a_need_counts ?l_need_counts ?c_need_counts ?k_need_counts ?a_barred ?l_barred ?c_barred ?k_barred ?a_is_moment ?l_is_moment ?c_is_moment ?k_is_moment ?a_need_moment ?l_need_moment ?c_need_moment ?k_need_moment ?a_stepped ?l_stepped ?c_stepped ?k_stepped ?a_come ?l_come ?c_come ?k_come ?a_came ?l_came ?c_came ?k_came ?a_need_two_counts ?l_need_two_counts ?c_need_two_counts ?k_need_two_counts ?a_higher ?l_higher ?c_higher ?k_higher ?a_lower ?l_lower ?c_lower ?k_lower ?a_beginning ?l_beginning ?c_beginning ?k_beginning ?a_need_run ?l_need_run ?c_need_run ?k_need_run ?a_waits ?l_waits ?c_waits ?k_waits ?a_is_ready ?l_is_ready ?c_is_ready ?k_is_ready ?a_next_towards ?l_next_towards ?c_next_towards ?k_next_towards ?a_way_between ?l_way_between ?c_way_between ?k_way_between ?a__law_cell ?l__law_cell ?c__law_cell ?k__law_cell ?a__law_box ?l__law_box ?c__law_box ?k__law_box ?a__law_take ?l__law_take ?c__law_take ?k__law_take ?a__law_names ?l__law_names ?c__law_names ?k__law_names ?a__law_shuffled ?l__law_shuffled ?c__law_shuffled ?k__law_shuffled ?a__law_plan ?l__law_plan ?c__law_plan ?k__law_plan ?a__law_made ?l__law_made ?c__law_made ?k__law_made ?a__law_broken ?l__law_broken ?c__law_broken ?k__law_broken ?a__law_zero ?l__law_zero ?c__law_zero ?k__law_zero ?a__law_with ?l__law_with ?c__law_with ?k__law_with ?a__law_run ?l__law_run ?c__law_run ?k__law_run ?a__law_turned ?l__law_turned ?c__law_turned ?k__law_turned ?a__law_called ?l__law_called ?c__law_called ?k__law_called ?a__law_refused ?l__law_refused ?c__law_refused ?k__law_refused ?a__law_rest_right ?l__law_rest_right ?c__law_rest_right ?k__law_rest_right ?a__law_right ?l__law_right ?c__law_right ?k__law_right ?a_law ?l_law ?c_law ?k_law ?a_behind ?l_behind ?c_behind ?k_behind ?w_behind ?a_run_to ?l_run_to ?c_run_to ?k_run_to ?w_run_to ?aC ?pgC ?hdC ?poC ?saC ?mkC ?kpC ?n_order ?n_rows ?n_caps ?haC ?hnC ?htC ?hmC ?isC ?a_Plan_events ?i_Plan_events ?l_Plan_events ?c_Plan_events ?k_Plan_events ?a_Plan_ties ?i_Plan_ties ?l_Plan_ties ?c_Plan_ties ?k_Plan_ties ?a_Plan_limits ?i_Plan_limits ?l_Plan_limits ?c_Plan_limits ?k_Plan_limits ?a_Plan___len__ ?i_Plan___len__ ?l_Plan___len__ ?c_Plan___len__ ?k_Plan___len__ ?a_Plan___contains__ ?i_Plan___contains__ ?l_Plan___contains__ ?c_Plan___contains__ ?k_Plan___contains__ ?a_init ?i_init ?l_init ?c_init ?k_init ?t_init ?u_init ?w_init ?xa_InvalidPlan ?xl_InvalidPlan ?xu_InvalidPlan ?xo_InvalidPlan ?xs_InvalidPlan ?xg_InvalidPlan ?xh_InvalidPlan ?xn_InvalidPlan ?xi_InvalidPlan ?xt_InvalidPlan ?xk_InvalidPlan ?xe_InvalidPlan ?xy_InvalidPlan ?xd_InvalidPlan ?xc_InvalidPlan ?xf_InvalidPlan ?xq_InvalidPlan ?xa_InvalidCounts ?xl_InvalidCounts ?xu_InvalidCounts ?xo_InvalidCounts ?xs_InvalidCounts ?xg_InvalidCounts ?xh_InvalidCounts ?xn_InvalidCounts ?xi_InvalidCounts ?xt_InvalidCounts ?xk_InvalidCounts ?xe_InvalidCounts ?xy_InvalidCounts ?xd_InvalidCounts ?xc_InvalidCounts ?xf_InvalidCounts ?xq_InvalidCounts ?xa_InvalidRun ?xl_InvalidRun ?xu_InvalidRun ?xo_InvalidRun ?xs_InvalidRun ?xg_InvalidRun ?xh_InvalidRun ?xn_InvalidRun ?xi_InvalidRun ?xt_InvalidRun ?xk_InvalidRun ?xe_InvalidRun ?xy_InvalidRun ?xd_InvalidRun ?xc_InvalidRun ?xf_InvalidRun ?xq_InvalidRun ?xa_NotMoment ?xl_NotMoment ?xu_NotMoment ?xo_NotMoment ?xs_NotMoment ?xg_NotMoment ?xh_NotMoment ?xn_NotMoment ?xi_NotMoment ?xt_NotMoment ?xk_NotMoment ?xe_NotMoment ?xy_NotMoment ?xd_NotMoment ?xc_NotMoment ?xf_NotMoment ?xq_NotMoment ?xa_NotBehind ?xl_NotBehind ?xu_NotBehind ?xo_NotBehind ?xs_NotBehind ?xg_NotBehind ?xh_NotBehind ?xn_NotBehind ?xi_NotBehind ?xt_NotBehind ?xk_NotBehind ?xe_NotBehind ?xy_NotBehind ?xd_NotBehind ?xc_NotBehind ?xf_NotBehind ?xq_NotBehind ?xa_Barred ?xl_Barred ?xu_Barred ?xo_Barred ?xs_Barred ?xg_Barred ?xh_Barred ?xn_Barred ?xi_Barred ?xt_Barred ?xk_Barred ?xe_Barred ?xy_Barred ?xd_Barred ?xc_Barred ?xf_Barred ?xq_Barred ?xa_TooLong ?xl_TooLong ?xu_TooLong ?xo_TooLong ?xs_TooLong ?xg_TooLong ?xh_TooLong ?xn_TooLong ?xi_TooLong ?xt_TooLong ?xk_TooLong ?xe_TooLong ?xy_TooLong ?xd_TooLong ?xc_TooLong ?xf_TooLong ?xq_TooLong ?m_InvalidPlan_InvalidPlan ?m_InvalidCounts_InvalidPlan ?m_InvalidCounts_InvalidCounts ?m_InvalidRun_InvalidPlan ?m_InvalidRun_InvalidCounts ?m_InvalidRun_InvalidRun ?m_NotMoment_InvalidPlan ?m_NotMoment_InvalidCounts ?m_NotMoment_InvalidRun ?m_NotMoment_NotMoment ?m_NotBehind_InvalidPlan ?m_NotBehind_InvalidCounts ?m_NotBehind_InvalidRun ?m_NotBehind_NotMoment ?m_NotBehind_NotBehind ?kt_NoneType ?kt_int ?kt_bool ?kt_str ?kt_list ?kt_tuple ?z_all ?z_any ?z_bool ?z_dict ?z_enumerate ?z_int ?z_isinstance ?z_len ?z_list ?z_max ?z_min ?z_range ?z_str ?z_sum ?z_tuple ?z_LETTERS ?z_LONGEST_NAME ?z_BILLION ?z_MOST_EVENTS ?z_MOST_TIES ?z_LONGEST_RUN
    (case a_is_integer => k_is)
    (case l_is_integer => k_is)
    (case c_is_integer => k_is)
    (case k_is_integer => k_is)
    (case a_is_count => k_is)
    (case l_is_count => k_is)
    (case c_is_count => k_is)
    (case k_is_count => k_is)
    (case a_is_name => k_is)
    (case l_is_name => k_is)
    (case c_is_name => k_is)
    (case k_is_name => k_is)
    (case a_need_events => k_is)
    (case l_need_events => k_is)
    (case c_need_events => k_is)
    (case k_need_events => k_is)
    (case a_need_event => k_is)
    (case l_need_event => k_is)
    (case c_need_event => k_is)
    (case k_need_event => k_is)
    (case a_need_tie => k_is)
    (case l_need_tie => k_is)
    (case c_need_tie => k_is)
    (case k_need_tie => k_is)
    (case a_need_ties => k_is)
    (case l_need_ties => k_is)
    (case c_need_ties => k_is)
    (case k_need_ties => k_is)
    (case a_need_limits => k_is)
    (case l_need_limits => k_is)
    (case c_need_limits => k_is)
    (case k_need_limits => k_is)
    (case a_ringed => k_is)
    (case l_ringed => k_is)
    (case c_ringed => k_is)
    (case k_ringed => k_is)
    (case a_need_plan => k_is)
    (case l_need_plan => k_is)
    (case c_need_plan => k_is)
    (case k_need_plan => k_is)
    (case a_is_counts => k_is)
    (case l_is_counts => k_is)
    (case c_is_counts => k_is)
    (case k_is_counts => k_is)
    (case a_need_counts => k_is)
    (case l_need_counts => k_is)
    (case c_need_counts => k_is)
    (case k_need_counts => k_is)
    (case a_barred => k_is)
    (case l_barred => k_is)
    (case c_barred => k_is)
    (case k_barred => k_is)
    (case a_is_moment => k_is)
    (case l_is_moment => k_is)
    (case c_is_moment => k_is)
    (case k_is_moment => k_is)
    (case a_need_moment => k_is)
    (case l_need_moment => k_is)
    (case c_need_moment => k_is)
    (case k_need_moment => k_is)
    (case a_stepped => k_is)
    (case l_stepped => k_is)
    (case c_stepped => k_is)
    (case k_stepped => k_is)
    (case a_come => k_is)
    (case l_come => k_is)
    (case c_come => k_is)
    (case k_come => k_is)
    (case a_came => k_is)
    (case l_came => k_is)
    (case c_came => k_is)
    (case k_came => k_is)
    (case a_need_two_counts => k_is)
    (case l_need_two_counts => k_is)
    (case c_need_two_counts => k_is)
    (case k_need_two_counts => k_is)
    (case a_higher => k_is)
    (case l_higher => k_is)
    (case c_higher => k_is)
    (case k_higher => k_is)
    (case a_lower => k_is)
    (case l_lower => k_is)
    (case c_lower => k_is)
    (case k_lower => k_is)
    (case a_beginning => k_is)
    (case l_beginning => k_is)
    (case c_beginning => k_is)
    (case k_beginning => k_is)
    (case a_need_run => k_is)
    (case l_need_run => k_is)
    (case c_need_run => k_is)
    (case k_need_run => k_is)
    (case a_waits => k_is)
    (case l_waits => k_is)
    (case c_waits => k_is)
    (case k_waits => k_is)
    (case a_is_ready => k_is)
    (case l_is_ready => k_is)
    (case c_is_ready => k_is)
    (case k_is_ready => k_is)
    (case a_next_towards => k_is)
    (case l_next_towards => k_is)
    (case c_next_towards => k_is)
    (case k_next_towards => k_is)
    (case a_way_between => k_is)
    (case l_way_between => k_is)
    (case c_way_between => k_is)
    (case k_way_between => k_is)
    (case a__law_cell => k_is)
    (case l__law_cell => k_is)
    (case c__law_cell => k_is)
    (case k__law_cell => k_is)
    (case a__law_box => k_is)
    (case l__law_box => k_is)
    (case c__law_box => k_is)
    (case k__law_box => k_is)
    (case a__law_take => k_is)
    (case l__law_take => k_is)
    (case c__law_take => k_is)
    (case k__law_take => k_is)
    (case a__law_names => k_is)
    (case l__law_names => k_is)
    (case c__law_names => k_is)
    (case k__law_names => k_is)
    (case a__law_shuffled => k_is)
    (case l__law_shuffled => k_is)
    (case c__law_shuffled => k_is)
    (case k__law_shuffled => k_is)
    (case a__law_plan => k_is)
    (case l__law_plan => k_is)
    (case c__law_plan => k_is)
    (case k__law_plan => k_is)
    (case a__law_made => k_is)
    (case l__law_made => k_is)
    (case c__law_made => k_is)
    (case k__law_made => k_is)
    (case a__law_broken => k_is)
    (case l__law_broken => k_is)
    (case c__law_broken => k_is)
    (case k__law_broken => k_is)
    (case a__law_zero => k_is)
    (case l__law_zero => k_is)
    (case c__law_zero => k_is)
    (case k__law_zero => k_is)
    (case a__law_with => k_is)
    (case l__law_with => k_is)
    (case c__law_with => k_is)
    (case k__law_with => k_is)
    (case a__law_run => k_is)
    (case l__law_run => k_is)
    (case c__law_run => k_is)
    (case k__law_run => k_is)
    (case a__law_turned => k_is)
    (case l__law_turned => k_is)
    (case c__law_turned => k_is)
    (case k__law_turned => k_is)
    (case a__law_called => k_is)
    (case l__law_called => k_is)
    (case c__law_called => k_is)
    (case k__law_called => k_is)
    (case a__law_refused => k_is)
    (case l__law_refused => k_is)
    (case c__law_refused => k_is)
    (case k__law_refused => k_is)
    (case a__law_rest_right => k_is)
    (case l__law_rest_right => k_is)
    (case c__law_rest_right => k_is)
    (case k__law_rest_right => k_is)
    (case a__law_right => k_is)
    (case l__law_right => k_is)
    (case c__law_right => k_is)
    (case k__law_right => k_is)
    (case a_law => k_is)
    (case l_law => k_is)
    (case c_law => k_is)
    (case k_law => k_is)
    (case a_behind => k_is)
    (case l_behind => k_is)
    (case c_behind => k_is)
    (case k_behind => k_is)
    (case w_behind => k_is)
    (case a_run_to => k_is)
    (case l_run_to => k_is)
    (case c_run_to => k_is)
    (case k_run_to => k_is)
    (case w_run_to => k_is)
    (case aC => k_is)
    (case pgC => k_is)
    (case hdC => k_is)
    (case poC => k_is)
    (case saC => k_is)
    (case mkC => k_is)
    (case kpC => k_is)
    (case n_order => k_is)
    (case n_rows => k_is)
    (case n_caps => k_is)
    (case haC => k_is)
    (case hnC => k_is)
    (case htC => k_is)
    (case hmC => k_is)
    (case isC => first | k_is | rfl)
    (case a_Plan_events => k_is)
    (case i_Plan_events => k_is)
    (case l_Plan_events => k_is)
    (case c_Plan_events => k_is)
    (case k_Plan_events => k_is)
    (case a_Plan_ties => k_is)
    (case i_Plan_ties => k_is)
    (case l_Plan_ties => k_is)
    (case c_Plan_ties => k_is)
    (case k_Plan_ties => k_is)
    (case a_Plan_limits => k_is)
    (case i_Plan_limits => k_is)
    (case l_Plan_limits => k_is)
    (case c_Plan_limits => k_is)
    (case k_Plan_limits => k_is)
    (case a_Plan___len__ => k_is)
    (case i_Plan___len__ => k_is)
    (case l_Plan___len__ => k_is)
    (case c_Plan___len__ => k_is)
    (case k_Plan___len__ => k_is)
    (case a_Plan___contains__ => k_is)
    (case i_Plan___contains__ => k_is)
    (case l_Plan___contains__ => k_is)
    (case c_Plan___contains__ => k_is)
    (case k_Plan___contains__ => k_is)
    (case a_init => k_is)
    (case i_init => k_is)
    (case l_init => k_is)
    (case c_init => k_is)
    (case k_init => k_is)
    (case t_init => k_is)
    (case u_init => k_is)
    (case w_init => k_is)
    (case xa_InvalidPlan => k_is)
    (case xl_InvalidPlan => k_is)
    (case xu_InvalidPlan => first | exact ⟨rfl, rfl, rfl⟩ | exact ⟨by decide +kernel, by decide +kernel, by decide +kernel⟩)
    (case xo_InvalidPlan => kx_is)
    (case xs_InvalidPlan => k_is)
    (case xg_InvalidPlan => k_is)
    (case xh_InvalidPlan => k_is)
    (case xn_InvalidPlan => k_is)
    (case xi_InvalidPlan => k_is)
    (case xt_InvalidPlan => k_is)
    (case xk_InvalidPlan => k_is)
    (case xe_InvalidPlan => k_is)
    (case xy_InvalidPlan => k_is)
    (case xd_InvalidPlan => k_is)
    (case xc_InvalidPlan => k_is)
    (case xf_InvalidPlan => k_is)
    (case xq_InvalidPlan => k_is)
    (case xa_InvalidCounts => k_is)
    (case xl_InvalidCounts => k_is)
    (case xu_InvalidCounts => first | exact ⟨rfl, rfl, rfl⟩ | exact ⟨by decide +kernel, by decide +kernel, by decide +kernel⟩)
    (case xo_InvalidCounts => kx_is)
    (case xs_InvalidCounts => k_is)
    (case xg_InvalidCounts => k_is)
    (case xh_InvalidCounts => k_is)
    (case xn_InvalidCounts => k_is)
    (case xi_InvalidCounts => k_is)
    (case xt_InvalidCounts => k_is)
    (case xk_InvalidCounts => k_is)
    (case xe_InvalidCounts => k_is)
    (case xy_InvalidCounts => k_is)
    (case xd_InvalidCounts => k_is)
    (case xc_InvalidCounts => k_is)
    (case xf_InvalidCounts => k_is)
    (case xq_InvalidCounts => k_is)
    (case xa_InvalidRun => k_is)
    (case xl_InvalidRun => k_is)
    (case xu_InvalidRun => first | exact ⟨rfl, rfl, rfl⟩ | exact ⟨by decide +kernel, by decide +kernel, by decide +kernel⟩)
    (case xo_InvalidRun => kx_is)
    (case xs_InvalidRun => k_is)
    (case xg_InvalidRun => k_is)
    (case xh_InvalidRun => k_is)
    (case xn_InvalidRun => k_is)
    (case xi_InvalidRun => k_is)
    (case xt_InvalidRun => k_is)
    (case xk_InvalidRun => k_is)
    (case xe_InvalidRun => k_is)
    (case xy_InvalidRun => k_is)
    (case xd_InvalidRun => k_is)
    (case xc_InvalidRun => k_is)
    (case xf_InvalidRun => k_is)
    (case xq_InvalidRun => k_is)
    (case xa_NotMoment => k_is)
    (case xl_NotMoment => k_is)
    (case xu_NotMoment => first | exact ⟨rfl, rfl, rfl⟩ | exact ⟨by decide +kernel, by decide +kernel, by decide +kernel⟩)
    (case xo_NotMoment => kx_is)
    (case xs_NotMoment => k_is)
    (case xg_NotMoment => k_is)
    (case xh_NotMoment => k_is)
    (case xn_NotMoment => k_is)
    (case xi_NotMoment => k_is)
    (case xt_NotMoment => k_is)
    (case xk_NotMoment => k_is)
    (case xe_NotMoment => k_is)
    (case xy_NotMoment => k_is)
    (case xd_NotMoment => k_is)
    (case xc_NotMoment => k_is)
    (case xf_NotMoment => k_is)
    (case xq_NotMoment => k_is)
    (case xa_NotBehind => k_is)
    (case xl_NotBehind => k_is)
    (case xu_NotBehind => first | exact ⟨rfl, rfl, rfl⟩ | exact ⟨by decide +kernel, by decide +kernel, by decide +kernel⟩)
    (case xo_NotBehind => kx_is)
    (case xs_NotBehind => k_is)
    (case xg_NotBehind => k_is)
    (case xh_NotBehind => k_is)
    (case xn_NotBehind => k_is)
    (case xi_NotBehind => k_is)
    (case xt_NotBehind => k_is)
    (case xk_NotBehind => k_is)
    (case xe_NotBehind => k_is)
    (case xy_NotBehind => k_is)
    (case xd_NotBehind => k_is)
    (case xc_NotBehind => k_is)
    (case xf_NotBehind => k_is)
    (case xq_NotBehind => k_is)
    (case xa_Barred => k_is)
    (case xl_Barred => k_is)
    (case xu_Barred => first | exact ⟨rfl, rfl, rfl⟩ | exact ⟨by decide +kernel, by decide +kernel, by decide +kernel⟩)
    (case xo_Barred => kx_is)
    (case xs_Barred => k_is)
    (case xg_Barred => k_is)
    (case xh_Barred => k_is)
    (case xn_Barred => k_is)
    (case xi_Barred => k_is)
    (case xt_Barred => k_is)
    (case xk_Barred => k_is)
    (case xe_Barred => k_is)
    (case xy_Barred => k_is)
    (case xd_Barred => k_is)
    (case xc_Barred => k_is)
    (case xf_Barred => k_is)
    (case xq_Barred => k_is)
    (case xa_TooLong => k_is)
    (case xl_TooLong => k_is)
    (case xu_TooLong => first | exact ⟨rfl, rfl, rfl⟩ | exact ⟨by decide +kernel, by decide +kernel, by decide +kernel⟩)
    (case xo_TooLong => kx_is)
    (case xs_TooLong => k_is)
    (case xg_TooLong => k_is)
    (case xh_TooLong => k_is)
    (case xn_TooLong => k_is)
    (case xi_TooLong => k_is)
    (case xt_TooLong => k_is)
    (case xk_TooLong => k_is)
    (case xe_TooLong => k_is)
    (case xy_TooLong => k_is)
    (case xd_TooLong => k_is)
    (case xc_TooLong => k_is)
    (case xf_TooLong => k_is)
    (case xq_TooLong => k_is)
    (case m_InvalidPlan_InvalidPlan => first | k_is | rfl)
    (case m_InvalidCounts_InvalidPlan => first | k_is | rfl)
    (case m_InvalidCounts_InvalidCounts => first | k_is | rfl)
    (case m_InvalidRun_InvalidPlan => first | k_is | rfl)
    (case m_InvalidRun_InvalidCounts => first | k_is | rfl)
    (case m_InvalidRun_InvalidRun => first | k_is | rfl)
    (case m_NotMoment_InvalidPlan => first | k_is | rfl)
    (case m_NotMoment_InvalidCounts => first | k_is | rfl)
    (case m_NotMoment_InvalidRun => first | k_is | rfl)
    (case m_NotMoment_NotMoment => first | k_is | rfl)
    (case m_NotBehind_InvalidPlan => first | k_is | rfl)
    (case m_NotBehind_InvalidCounts => first | k_is | rfl)
    (case m_NotBehind_InvalidRun => first | k_is | rfl)
    (case m_NotBehind_NotMoment => first | k_is | rfl)
    (case m_NotBehind_NotBehind => first | k_is | rfl)
    (case kt_NoneType => first | k_is | rfl)
    (case kt_int => first | k_is | rfl)
    (case kt_bool => first | k_is | rfl)
    (case kt_str => first | k_is | rfl)
    (case kt_list => first | k_is | rfl)
    (case kt_tuple => first | k_is | rfl)
    (case z_all => k_is)
    (case z_any => k_is)
    (case z_bool => k_is)
    (case z_dict => k_is)
    (case z_enumerate => k_is)
    (case z_int => k_is)
    (case z_isinstance => k_is)
    (case z_len => k_is)
    (case z_list => k_is)
    (case z_max => k_is)
    (case z_min => k_is)
    (case z_range => k_is)
    (case z_str => k_is)
    (case z_sum => k_is)
    (case z_tuple => k_is)
    (case z_LETTERS => k_is)
    (case z_LONGEST_NAME => k_is)
    (case z_BILLION => k_is)
    (case z_MOST_EVENTS => k_is)
    (case z_MOST_TIES => k_is)
    (case z_LONGEST_RUN => k_is)
