import PyProof.Rows.All
import Wide.All
import OpenK.AllK
import Wide.FinOn
import KE.GoesEnum
import HandS.ForMost
import HandS.DictComp
import HandS.Walk
import HandS.IsInst
import HandS.Wide
import HandS.Ends
import PyProof.ReprRoads
import HandS.Defaults
import HandS.OwnIter
import HandS.NamedTupGet
import KE.KExcInit
import HandS.ForExc
import HandS.TryMany
import PyProof.DictUpdate
import PyProof.DictDisplay
import HandS.Dict
import HandS.Style
import HandS.ListEq
import HandS.DictEq
import PyProof.NeKinds
import HandS.DeepEq
import HandS.MakeKwOnly
import HandS.NoneIn
import HandS.ListItems
import HandS.Star
import PyProof.Rows.StrMeet
import HandS.More
import HandS.RevRange
import HandS.SetFor
import HandS.Conv
import KE.KMinKey
import HandS.SortKw
import PyProof.ReprBulk
import KE.KExcLine
import PySem.Challenge.RW_pileups_k92_whole_runs_and_what_is_seen
set_option Elab.async false
set_option linter.all false
set_option maxRecDepth 100000
set_option maxHeartbeats 4000000
/-! enumerate(tuple) -/
namespace PySem
open Sem (wp)
open AutoSeq1 (wpAny_loadPart')
theorem meets_enumerate_new1 {v : Value} {o : Obj} {H : Heap → Prop} (B : Begins v o H) :
    Meets (Builtin.«enumerate.__new__» ⟨[.type "enumerate", v], []⟩) (fun _ R s => H s.heap ∧
      R (.ok (.ret (.ref (s.heap.push o).objs.size))) { s with heap := (s.heap.push o).push { cls := .type "enumerate", data := .fields #[.none, .bool false, .ref s.heap.objs.size, rawInt 0, .none, .none] } }) :=
  .of_wp fun prog w A R s h => by
    obtain ⟨hp, g, d, tk, os⟩ := s; obtain ⟨h1, h⟩ := h
    have hsub := sub_enumerate
    have q1 : ∀ {A' : Around} {E : Value → Shared → Prop} {Q : Value → Shared → Prop}, Q (.ref hp.objs.size) ⟨hp.push o, g, d, tk, os⟩ → wpAny (model prog w) A' (pyIter v) Q E ⟨hp, g, d, tk, os⟩ :=
      fun q => B.iter prog w _ _ ⟨hp, g, d, tk, os⟩ _ h1 q
    wp_walk using q1
    refine wpAny_stack_any fun st => wpAny_pure ?_
    split
    · rename_i c _ _ _ _ _
      cases (c == Value.type "enumerate")
      · wp_walk using q1
        exact ⟨_, rfl, h⟩
      · wp_walk using q1
        exact ⟨_, rfl, h⟩
    · wp_walk using q1
      exact ⟨_, rfl, h⟩
section
variable {prog : Program} {w : World} {A : Around} {E : Value → Shared → Prop} {s : Shared}
theorem enum_begins1 {v : Value} {o : Obj} {H : Heap → Prop} {Q : Value → Shared → Prop} (B : Begins v o H) (h1 : H s.heap)
    (h : ∀ h', IsEnum h' (s.heap.objs.size + 1) s.heap.objs.size 0 .none → h'.get? s.heap.objs.size = some o → h'.objs.size = s.heap.objs.size + 2 →
      (∀ b o, s.heap.get? b = some o → h'.get? b = some o) → Q (.ref (s.heap.objs.size + 1)) { s with heap := h' }) :
    wpAny (model prog w) A (call (.type "enumerate") [v]) Q E s := by
  refine callType_new F.called_enumerate (by decide) (F.typeCall_enumerate_1 _) (F.newCall_enumerate_1 _) (fun obj => F.args_object_init_2 obj _) F.entry_enumerate_new
    (meets_enumerate_new1 B) ⟨h1, ?_⟩
  have hz : (s.heap.push o).objs.size = s.heap.objs.size + 1 := Heap.size_push ..
  show _ ∧ _
  rw [hz]
  have he : IsEnum ((s.heap.push o).push { cls := .type "enumerate", data := .fields #[.none, .bool false, .ref s.heap.objs.size, rawInt 0, .none, .none] }) (s.heap.objs.size + 1) s.heap.objs.size 0 .none := by
    have := Heap.get?_push_size (s.heap.push o) (o := { cls := .type "enumerate", data := .fields #[.none, .bool false, .ref s.heap.objs.size, rawInt 0, .none, .none] }) rfl
    rw [hz] at this; exact this
  refine ⟨⟨_, he, rfl⟩, h _ he (Heap.get?_push_of_some _ (Heap.get?_push_size _ B.free)) (by rw [Heap.size_push, hz]) fun b o x => Heap.get?_push_of_some _ (Heap.get?_push_of_some _ x)⟩
end
end PySem
namespace L2
open PySem PySem.Spec PyProof.Rows
/-- the tuple at a, each item in a new pair -/
def IteT (K : PySem.W.Frag) (a : Addr) : It :=
  ⟨fun i H => ∃ (xs : List V) (x : V), SqT K H a xs ∧ xs[i]? = some x, fun i H v H' => ∃ T x, v = .ref T ∧ H T = none ∧ H' = upd H T (.tup [.int (i : Nat), x]) ∧ ∀ xs, SqT K H a xs → xs[i]? = some x, fun i H => ∃ xs : List V, SqT K H a xs ∧ xs.length ≤ i⟩
theorem turn_enumT {P : Program} {w : World} {K : PySem.W.Frag} {elts : List Expr} {kk : Nat} {tpos : Pos} (a e it : Addr) (hai : a ≠ it) (hae : a ≠ e) :
    Turn P w K (.Tuple elts kk tpos) (IteT K a) [e, it] e (fun i h => (∃ old, IsEnum h e it ((i : Nat) : Int) old) ∧ h.IsTupleIter it a i ∧ e ≠ it) where
  mem := by simp
  obj := fun i h st b hb => by
    obtain ⟨⟨old, he⟩, ⟨o, ho, hc, hd⟩, _⟩ := st
    have e' : b = e ∨ b = it := by simpa using hb
    rcases e' with z | z
    · rw [z]; exact ⟨_, he, fun v q => nomatch q⟩
    · rw [z]; exact ⟨o, ho, fun v q => by rw [hd] at q; cases q⟩
  keep := fun i h h' st k => let ⟨⟨old, he⟩, hi, hne⟩ := st; ⟨⟨old, k e (by simp) _ he⟩, hi.at fun o q => k it (by simp) o q, hne⟩
  item := by
    intro X hP hw hK hc i pins s σ H E I hf st hg
    subst hP hw hK
    obtain ⟨⟨old, he⟩, hit, hne⟩ := st
    obtain ⟨xs, x, hq, hx⟩ := hg
    obtain ⟨its, rv, p, hz⟩ := I.tuple hq
    obtain ⟨u, hu, ru⟩ := rv.get hx
    have hel : e < s.heap.objs.size := Heap.lt_size he
    have hil : it < s.heap.objs.size := by obtain ⟨_, q, _⟩ := hit; exact Heap.lt_size q
    have hp : s.heap.IsTuple a its.toArray := p
    have hlt : i < its.toArray.size := by
      rcases Nat.lt_or_ge i its.toArray.size with z | z
      · exact z
      · have : its[i]? = none := by simpa using z
        rw [this] at hu; cases hu
    refine wpAny_pyNext_enum_itemD (Draws.tuple (A := X.A.in1) (show X.A.in1.handled = none from I.ok.hd hc) it a hai its.toArray) he ⟨hit, hp⟩ hlt hne (by simp only [List.mem_cons, List.not_mem_nil, or_false, not_or]; exact ⟨hne, Ne.symm hae⟩) fun y h' tk hy ho st' hT hsz hk => ?_
    obtain ⟨hit', hp'⟩ := st'
    have hyu : y = u := by
      have e1 : its.toArray[i]? = some u := by simpa using hu
      rw [e1] at hy; cases hy; rfl
    subst hyu
    refine ⟨_, rfl, wpAny_letOwnedTupleGo_enum (s := { s with heap := h', toks := tk + 1 }) ho fun h'' he' sb => ?_⟩
    have hT2 : h''.get? s.heap.objs.size = some { cls := .type "tuple", data := .seq #[.int i tk, y] } := (sb.2 _ (Nat.ne_of_gt hel)).trans hT
    have new : ObjOk X.prog X.w (upd H s.heap.objs.size (.tup [.int (i : Nat), x])) h'' s.heap.objs.size (.tup [.int (i : Nat), x]) :=
      ⟨by show 2 ≤ sizeLine; decide, [.int i tk, y], .cons ⟨_, rfl⟩ (.cons ru .nil), ⟨_, hT2, rfl, _, rfl⟩⟩
    have I1 : Inv X pins σ (upd H s.heap.objs.size (.tup [.int (i : Nat), x])) { s with heap := h'', toks := tk + 1 } :=
      I.turnedNew (ch := [e, it]) (fun b ob hb q => (sb.2 b (fun z => hb (by simp [z]))).trans (hk b ob (fun z => hb (by simp [z])) (fun z => hb (by simp [z])) q)) hf (Nat.le_refl _) new
    refine ⟨.ref s.heap.objs.size, _, I1, rfl, ⟨_, x, rfl, I.hok.fresh (Nat.le_refl _), rfl, fun ys hy => by rw [I.tuple_inj hy hq]; exact hx⟩, ⟨⟨y, ?_⟩, hit'.at fun o q => (sb.2 it (Ne.symm hne)).trans q, hne⟩, fun b hb => ?_⟩
    · have e1 : ((i + 1 : Nat) : Int) = (i : Int) + 1 := by omega
      rw [e1]; exact he'
    · have hb' : b < s.heap.objs.size := by
        have e' : b = e ∨ b = it := by simpa using hb
        rcases e' with z | z
        · rw [z]; exact hel
        · rw [z]; exact hil
      rw [upd_ne (Nat.ne_of_lt hb')]
      exact (hf b hb).1
  done := by
    intro X hP hw hK hc i pins s σ H E I hf st hg
    subst hP hw hK
    obtain ⟨⟨old, he⟩, hit, hne⟩ := st
    obtain ⟨xs, hq, hx⟩ := hg
    obtain ⟨its, rv, p, hz⟩ := I.tuple hq
    obtain ⟨f0, f1, f2, f3, f4, f5⟩ := hf it (by simp)
    have hl := rv.length
    have hp : s.heap.IsTuple a its.toArray := p
    have hnone : its.toArray[i]? = none := by simp; omega
    have hT : s.TypeIs (.ref e) "enumerate" := ⟨_, he, rfl⟩
    unfold pyNext
    refine wpAny_bind (wpAny_attempt (wpAny_callSpecial?_slot (name := Str.ofString "__next__") hT F.slot_enumerate_next
      (wpAny_call_entry F.slot_enumerate_next hT F.entry_enumerate_next ?_ (F.args_enumerate_next_1 _))))
    show wpAny _ _ (field (.ref e) 2 >>= _) _ _ _
    refine wpAny_bind (wpAny_field he rfl (x := .ref it) rfl ?_)
    refine wpAny_bind (wpAny_nextOf_tuple_end (I.ok.hd hc) hit hp hnone fun h' x eb hx' => ?_)
    obtain ⟨o, ho, hcl⟩ := hx'
    refine wpAny_bind (wpAny_isInstance (T := "StopIteration") (b := true) ⟨o, ho, hcl⟩ isSubtype_stop ?_)
    exact wpAny_pure ⟨rfl, I.turned (t' := s.toks) (fun b o hb q => eb b o hb q) f0 f1 f3 f4 f5⟩
  self := fun A i s Q E st h => let ⟨⟨_, he⟩, _⟩ := st; wpAny_pyIter_enum he h
def iEnumT (K : PySem.W.Frag) (ta : TA) : TI := fun σ H R => ta σ H fun vs H1 => ∃ a xs, vs = [.ref a] ∧ SqT K H1 a xs ∧ R (IteT K a) H1
theorem pi_enumT {X : Cx} {e : Expr} {ta : TA} {p pos tpos : Pos} {elts : List Expr} {kk : Nat} (hg : Gl X "enumerate") (hm : X.mg "enumerate" = none) (ha : PA X [e] ta) (hs : starEach [e] X.env = [(false, eval e X.env)] := by rfl) :
    PI X (.Tuple elts kk tpos) (.Call (.Name "enumerate" p) [e] [] pos) (iEnumT X.K ta) := by
  refine ⟨fun pins s σ H R I h => ?_⟩
  refine Call_ (ld_blt I hg hm boot_enumerate (PyProof.Rows.callWith_type1 (thn (ha.run pos pins s σ H _ I h) fun us s1 ⟨vs, H1, I1, r1, q1⟩ => ?_) hs rfl))
  obtain ⟨a, xs, ex, hq, q⟩ := q1
  subst ex
  cases r1 with
  | cons r rr =>
    cases rr
    cases r
    obtain ⟨its, rv, p', hz⟩ := I1.tuple hq
    have hp : s1.heap.IsTuple a its.toArray := p'
    have hal : a < s1.heap.objs.size := by obtain ⟨_, z, _⟩ := hp; exact Heap.lt_size z
    refine enum_begins1 (begins_tuple a its.toArray) hp fun h' he hit hsz hk => wpAny_pyIter_enum he ?_
    have I2 : Inv X pins σ H1 { s1 with heap := h' } := I1.kept (t' := s1.toks) hk
    refine ⟨s1.heap.objs.size + 1, [s1.heap.objs.size + 1, s1.heap.objs.size], _, _, H1, rfl, I2, turn_enumT a (s1.heap.objs.size + 1) s1.heap.objs.size (Nat.ne_of_lt hal) (Nat.ne_of_lt (Nat.lt_succ_of_lt hal)), ⟨⟨.none, he⟩, ⟨_, hit, rfl, rfl⟩, Nat.succ_ne_self _⟩, fun b hb => ?_, q⟩
    have e' : b = s1.heap.objs.size + 1 ∨ b = s1.heap.objs.size := by simpa using hb
    have hle : s1.heap.objs.size ≤ b := by
      rcases e' with z | z
      · rw [z]; exact Nat.le_add_right _ _
      · rw [z]; exact Nat.le_refl _
    exact I1.fpOk hle (I1.hok.fresh hle)
end L2

set_option Elab.async false
set_option linter.all false
set_option maxRecDepth 100000
set_option maxHeartbeats 4000000
/-! {k: v for target in iter if ..} with keys that are tuples of ints and texts -/
namespace L2
open PySem PySem.Spec PyProof.Rows
theorem putT {X : Cx} {pins : List (Addr × Obj)} {σ : St} {H : Hp} {s : Shared} {E : Value → Shared → Prop} {D b : Addr} {kvs : List (List Key × V)} {k : List Key} {v : V} {r : Value} {Q : Unit → Shared → Prop} (hu : X.A.units + 1 < cLine) (I : Inv X pins σ H s) (hD : H D = some (.dT kvs)) (hb : H b = some (.tup (k.map kV)))
    (hz : kvs.length < sizeLine) (rv : RelV v r) (h : ∀ s', Inv X pins σ (upd H D (.dT (putK kvs k v))) s' → Q () s') : wpAny (model X.prog X.w) X.A (dictSet D (.ref b) r) Q E s := by
  obtain ⟨z, hd, xs, rel, dd⟩ := dt_of I.hok hD
  have lx : xs.length ≤ sizeLine := by
    rw [← Paired.length rel]
    exact z
  have ln : (putK kvs k v).length ≤ sizeLine := by
    have := length_putK kvs k v
    omega
  refine wpAny_dictSet_heap (hsz := lx) (show (tupleKind (mixKind X.prog X.w)).room X.A from Nat.lt_of_succ_lt hu) (key_of I.hok hb) dd fun h' dd' hs => h _ ?_
  obtain ⟨q, es, ep, hq, h2, h3, h4, _, h5⟩ := dd'
  refine d_write I (by rw [hD]; exact True.intro) hs ⟨q, hq⟩ ⟨ln, hd, _, (rel.put k hb rv).keeps fun c ys ec => ?_, q, es, ep, hq, h2, h3, h4, h5⟩
  rw [upd_ne (ne_of ec hD (fun z => nomatch z))]
  exact ec
section
variable {X : Cx}
/-- D: the new dict -/
def tDcT (wi : TI) (g : TG) (tt : TT) (tk tv : TE) (vs : List Nat) : TE := fun σ H Q => wi σ H fun J H1 => ∀ D, H1 D = none → ∃ W : Nat → Nat → Hp → Prop, (∃ m, W 0 m (upd H1 D (.dT []))) ∧ ∀ i m H, W i m H →
  (J.stop i H ∧ Q (.ref D) H) ∨ (J.go i H ∧ ∃ Nx : Hp → Prop, (∀ H', Nx H' → ∃ m', m' < m ∧ W (i + 1) m' H') ∧ ∀ x H', J.yld i H x H' → g x (wipe σ vs) H' fun σ2 H2 => wipe σ2 vs = wipe σ vs ∧ tt σ2 H2 fun b H3 =>
    if b = true then tk σ2 H3 fun y H4 => tv σ2 H4 fun z H5 => ∃ (kvs : List (List Key × V)) (k : List Key) (b : Addr), y = .ref b ∧ H5 b = some (.tup (k.map kV)) ∧ H5 D = some (.dT kvs) ∧ kvs.length < sizeLine ∧ Nx (upd H5 D (.dT (putK kvs k z))) else Nx H3)
theorem dcT_core {pins : List (Addr × Obj)} {s : Shared} {σ : St} {H : Hp} {Q : VK} {kx vx tg iter : Expr} {ifs : List Expr} {scope : Scope} {own : List (Str × Nat)} {pos pos' : Pos} {wi : TI} {g : TG} {tt : TT} {tk tv : TE} {use : Option (Value → Sem Unit)} {Qf : Value → Shared → Prop}
    (hu : X.A.units + 1 < cLine) (hc : X.calm = true) (hN : X.N.Nodup) (I : Inv X pins σ H s) (hi : PI X tg iter wi) (ok : BlkOk X.N X.env.scope scope own)
    (hg : ∀ (s : Shared) (H : Hp) (C : Addr) (cl : List (Str × Addr)) (fp : List Addr), PG (X.blk s H scope (compEnvC scope cl C X.env) fp) tg g) (ht : ∀ (s : Shared) (H : Hp) (C : Addr) (cl : List (Str × Addr)) (fp : List Addr), PTs (X.blk s H scope (compEnvC scope cl C X.env) fp) ifs tt)
    (hk : ∀ (s : Shared) (H : Hp) (C : Addr) (cl : List (Str × Addr)) (fp : List Addr), PE (X.blk s H scope (compEnvC scope cl C X.env) fp) kx tk)
    (he : ∀ (s : Shared) (H : Hp) (C : Addr) (cl : List (Str × Addr)) (fp : List Addr), PE (X.blk s H scope (compEnvC scope cl C X.env) fp) vx tv) (hs : ∀ x, foldedSetIterable iter X.env x = pure x)
    (h : tDcT wi g tt tk tv (own.map (·.2)) σ H Q)
    (last : ∀ D C s' m H', Inv X pins σ H' s' → Q (.ref D) H' → s'.heap.Ns C m → FpOk X pins H' C → compPost (model X.prog X.w) X.A X.xe use Qf (.ref D) C (.ok .next) s') :
    wpAny (model X.prog X.w) X.A (comprehension (.DictComp kx vx [⟨tg, iter, ifs, 0⟩] scope pos) scope X.env pos' newDict false (eval iter X.env) use) Qf X.xe s := by
  have hfree : ∀ y ∈ scope.names, y.2 = .free → ∃ c, X.env.cells.lookup y.1 = some c := by
    intro y hy e
    rcases ok.free y hy e with k | k
    · exact I.ok.has _ (.inl k)
    · exact I.ok.has _ (.inr k)
  refine wpAny_comprehension_free (use := use) rfl hs (closure_ok hfree) ok.kind (fun y hy e => by rw [ok.uniq y hy, e]) (thn (hi.run pins s σ H _ I h) ?_)
  intro xv s1 hx
  refine thn hx ?_
  rintro itv s2 ⟨it, fp, tn, J, H2, rfl, I2, T, st2, f2, q⟩
  refine wpAny_newObj_type (newEnv_comp ?_)
  have hDn : H2 s2.heap.objs.size = none := I2.hok.fresh (Nat.le_refl _)
  obtain ⟨W, ⟨m0, w0⟩, turn⟩ := q _ hDn
  -- the new dict
  have I3 : Inv X pins σ (upd H2 s2.heap.objs.size (.dT [])) { s2 with heap := s2.heap.push { cls := .type "dict", data := .dict #[] } } :=
    I2.laid (t' := s2.toks) (fun b o e => Heap.get?_push_of_some _ e) (Nat.le_refl _) (dt_empty s2.heap I2.big)
  have sz : ∀ b ∈ fp, b < s2.heap.objs.size := fun b hb => Heap.lt_size (T.obj _ _ st2 b hb).choose_spec.1
  have f3 : ∀ b ∈ fp, FpOk X pins (upd H2 s2.heap.objs.size (.dT [])) b ∧ b < (s2.heap.push { cls := .type "dict", data := .dict #[] }).objs.size := fun b hb => by
    refine ⟨⟨?_, (f2 b hb).2⟩, by rw [Heap.size_push]; exact Nat.lt_succ_of_lt (sz b hb)⟩
    rw [upd_ne (Nat.ne_of_lt (sz b hb))]
    exact (f2 b hb).1
  have st3 : tn 0 (s2.heap.push { cls := .type "dict", data := .dict #[] }) := T.keep _ _ _ st2 fun b _ o e => Heap.get?_push_of_some _ e
  revert I3 f3 st3 w0 turn
  generalize s2.heap.objs.size = D
  generalize upd H2 D (.dT []) = H3
  generalize e3 : ({ s2 with heap := s2.heap.push { cls := .type "dict", data := .dict #[] } } : Shared) = s3
  have h3 : s2.heap.push { cls := .type "dict", data := .dict #[] } = s3.heap := by rw [← e3]
  rw [h3]
  intro turn w0 I3 f3 st3
  have I4 := block_start I3 ok hN f3
  have pg := hg s3 H3 s3.heap.objs.size (cellsFrom (s3.heap.objs.size + 1) scope.names (cloFrom X.env.cells scope.names [])) fp
  have pt := ht s3 H3 s3.heap.objs.size (cellsFrom (s3.heap.objs.size + 1) scope.names (cloFrom X.env.cells scope.names [])) fp
  have pk := hk s3 H3 s3.heap.objs.size (cellsFrom (s3.heap.objs.size + 1) scope.names (cloFrom X.env.cells scope.names [])) fp
  have pe := he s3 H3 s3.heap.objs.size (cellsFrom (s3.heap.objs.size + 1) scope.names (cloFrom X.env.cells scope.names [])) fp
  refine (show codeAny _ _ (.compStart (.DictComp kx vx [⟨tg, iter, ifs, 0⟩] scope pos) 0 (.ref it) (.ref D) (compEnvC scope (cellsFrom (s3.heap.objs.size + 1) scope.names (cloFrom X.env.cells scope.names [])) s3.heap.objs.size X.env)) (compPost (model X.prog X.w) X.A X.xe use Qf (.ref D) s3.heap.objs.size) { s3 with heap := pushCells (s3.heap.push { cls := .type "dict", data := .dict #[] }) scope.names } from ?_)
  have cL : (compEnvC scope (cellsFrom (s3.heap.objs.size + 1) scope.names (cloFrom X.env.cells scope.names [])) s3.heap.objs.size X.env).locals = s3.heap.objs.size := rfl
  revert I4 pg pt pk pe cL
  generalize compEnvC scope (cellsFrom (s3.heap.objs.size + 1) scope.names (cloFrom X.env.cells scope.names [])) s3.heap.objs.size X.env = ce
  intro I4 pg pt pk pe cL
  generalize hs4 : ({ s3 with heap := pushCells (s3.heap.push { cls := .type "dict", data := .dict #[] }) scope.names } : Shared) = s4 at I4 ⊢
  have st4 : tn 0 s4.heap := T.keep _ _ _ st3 fun b _ o e => by
    rw [← hs4]
    exact pushCells_keeps _ _ _ _ (Heap.get?_push_of_some _ e)
  have stat : ∀ {σ' : St} {H' : Hp} {s' : Shared}, Inv (X.blk s3 H3 scope ce fp) [] σ' H' s' → (∀ b ∈ fp, H' b = none) → ∀ b ∈ fp, FpOk (X.blk s3 H3 scope ce fp) [] H' b := fun {σ' H' s'} I' hn b hb =>
    ⟨hn b hb, (I'.ok.exf b hb).1, I'.ok.exfs b hb, .inl hb, fun x c e => (I'.ok.exf b hb).2 x c e, fun p hp => by cases hp⟩
  have loop : codeAny (model X.prog X.w) X.A (.compLoop (.DictComp kx vx [⟨tg, iter, ifs, 0⟩] scope pos) 0 (.ref it) (.ref D) ce) (compPost (model X.prog X.w) X.A X.xe use Qf (.ref D) s3.heap.objs.size) s4 := by
    refine compLoop_anyD (fun n s' => ∃ i H', Inv (X.blk s3 H3 scope ce fp) [] (wipe σ (own.map (·.2))) H' s' ∧ tn i s'.heap ∧ (∀ b ∈ fp, H' b = none) ∧ W i n H') ?_ m0 ⟨0, H3, I4, st4, fun b hb => (f3 b hb).1.1, w0⟩
    rintro n s5 ⟨i, H5, I5, st5, n5, w5⟩
    rcases turn i n H5 w5 with ⟨stop, qq⟩ | ⟨go, Nx, hNx, step⟩
    · refine thnF (T.done (X.blk s3 H3 scope ce fp) rfl rfl rfl hc i [] s5 _ H5 (fun _ _ => False) I5 (stat I5 n5) st5 stop) ?_
      rintro r s6 ⟨rfl, I6⟩
      have I7 : Inv X pins σ H5 s6 := I3.call' (ch := fp) I6.os I6.base I6.hok I6.bare fun b hb => ⟨(f3 b hb).1.2.2.2.1, (f3 b hb).1.2.1, (f3 b hb).1.2.2.2.2.1, (f3 b hb).1.2.2.2.2.2⟩
      have nC : H5 s3.heap.objs.size = none := by
        have z : H5 ce.locals = none := I6.free
        rw [cL] at z
        exact z
      obtain ⟨m, hn, _⟩ := I6.loc
      have hn : s6.heap.Ns ce.locals m := hn
      rw [cL] at hn
      exact last D s3.heap.objs.size s6 m H5 I7 qq hn (I3.fpOk (Nat.le_refl _) nC)
    · refine thnF (T.item (X.blk s3 H3 scope ce fp) rfl rfl rfl hc i [] s5 _ H5 (fun _ _ => False) I5 (stat I5 n5) st5 go) ?_
      rintro r s6 ⟨u, rfl, h6⟩
      refine thnF h6 ?_
      rintro _ s7 ⟨x, H7, I7, r7, y7, st7, n7⟩
      refine thnF (pg.run _ s7 _ H7 x u _ (I7.pinned (stat I7 n7) (T.obj _ _ st7)) r7 (step x H7 y7)) ?_
      rintro _ s8 ⟨σ8, H8, I8, hw8, q8⟩
      refine thnF (pt.run _ s8 σ8 H8 _ I8 q8) ?_
      rintro b s9 ⟨H9, I9, q9⟩
      have fin : ∀ {s' : Shared} {H' : Hp}, Inv (X.blk s3 H3 scope ce fp) ([] ++ pinsAt fp s7.heap) σ8 H' s' → Nx H' → ∃ m, m < n ∧ ∃ i H', Inv (X.blk s3 H3 scope ce fp) [] (wipe σ (own.map (·.2))) H' s' ∧ tn i s'.heap ∧ (∀ b ∈ fp, H' b = none) ∧ W i m H' := by
        intro s' H' I' nx
        obtain ⟨m', hm, w'⟩ := hNx H' nx
        have pin' : ∀ b ∈ fp, ∀ o, s7.heap.get? b = some o → s'.heap.get? b = some o ∧ H' b = none := fun b hb o e =>
          let z := I'.pin (b, o) (List.mem_append_right _ (List.mem_append_right _ (mem_pinsAt hb e)))
          ⟨z.1, z.2.1⟩
        have hl : (wipe σ (own.map (·.2))).length = σ8.length := by rw [← hw8, wipe_length]
        refine ⟨m', hm, i + 1, H', (I'.unpinned (pins := [])).weak hl (fun j v e => ?_), T.keep _ _ _ st7 fun b hb o e => (pin' b hb o e).1, fun b hb => ?_, w'⟩
        · rw [← hw8] at e
          exact (wipe_some e).1
        · obtain ⟨o, e, _⟩ := T.obj _ _ st7 b hb
          exact (pin' b hb o e).2
      cases b with
      | false =>
        simp only [Bool.false_eq_true, if_false] at q9 ⊢
        exact fin I9 q9
      | true =>
        simp only [if_true] at q9 ⊢
        refine thnF (pk.run _ s9 σ8 H9 _ I9 q9) ?_
        rintro z s10 ⟨yk, H10, I10, r10, q10⟩
        refine thnF (pe.run _ s10 σ8 H10 _ I10 q10) ?_
        rintro z2 s11 ⟨yv, H11, I11, r11, kvs, k, bk, ek, hbk, hD11, hz11, nx⟩
        subst ek
        cases (show z = Value.ref bk from r10)
        exact putT (X := X.blk s3 H3 scope ce fp) hu I11 hD11 hbk hz11 r11 fun s12 I12 => fin I12 nx
  exact codeAny_compStart_dict loop (T.self X.A 0 _ _ _ st4 loop)
theorem pe_dcT {kx vx tg iter : Expr} {ifs : List Expr} {scope : Scope} {own : List (Str × Nat)} {pos : Pos} {wi : TI} {g : TG} {tt : TT} {tk tv : TE} (hu : X.A.units + 1 < cLine) (hc : X.calm = true) (hN : X.N.Nodup) (hi : PI X tg iter wi) (ok : BlkOk X.N X.env.scope scope own)
    (hg : ∀ (s : Shared) (H : Hp) (C : Addr) (cl : List (Str × Addr)) (fp : List Addr), PG (X.blk s H scope (compEnvC scope cl C X.env) fp) tg g) (ht : ∀ (s : Shared) (H : Hp) (C : Addr) (cl : List (Str × Addr)) (fp : List Addr), PTs (X.blk s H scope (compEnvC scope cl C X.env) fp) ifs tt)
    (hk : ∀ (s : Shared) (H : Hp) (C : Addr) (cl : List (Str × Addr)) (fp : List Addr), PE (X.blk s H scope (compEnvC scope cl C X.env) fp) kx tk)
    (he : ∀ (s : Shared) (H : Hp) (C : Addr) (cl : List (Str × Addr)) (fp : List Addr), PE (X.blk s H scope (compEnvC scope cl C X.env) fp) vx tv) (hs : ∀ x, foldedSetIterable iter X.env x = pure x := by intro _; rfl) :
    PE X (.DictComp kx vx [⟨tg, iter, ifs, 0⟩] scope pos) (tDcT wi g tt tk tv (own.map (·.2))) := by
  refine ⟨fun pins s σ H Q I h => ?_⟩
  rw [arm_eval_DictComp]
  refine dcT_core hu hc hN I hi ok hg ht hk he hs h ?_
  intro D C s' m H' I' q hn f
  refine ⟨m, hn, fun h'' sb => ?_⟩
  obtain ⟨f0, f1, f2, f3, f4, f5⟩ := f
  exact ⟨.ref D, H', I'.turned (t' := s'.toks) (fun b o hb e => (sb.2 b hb).trans e) f0 f1 f3 f4 f5, rfl, q⟩
theorem ps_setDcT {i : Nat} {y : Str} {py : Pos} {kx vx tg iter : Expr} {ifs : List Expr} {scope : Scope} {own : List (Str × Nat)} {pos spos : Pos} {wi : TI} {g : TG} {tt : TT} {tk tv : TE} (hu : X.A.units + 1 < cLine) (hc : X.calm = true) (hN : X.N.Nodup) (hy : X.N[i]? = some y) (hyl : X.env.scope.names.lookup y = some .local)
    (hsw : swapsWith (.DictComp kx vx [⟨tg, iter, ifs, 0⟩] scope pos) (some (.Name y py)) spos.line X.env = pure true) (hi : PI X tg iter wi) (ok : BlkOk X.N X.env.scope scope own)
    (hg : ∀ (s : Shared) (H : Hp) (C : Addr) (cl : List (Str × Addr)) (fp : List Addr), PG (X.blk s H scope (compEnvC scope cl C X.env) fp) tg g) (ht : ∀ (s : Shared) (H : Hp) (C : Addr) (cl : List (Str × Addr)) (fp : List Addr), PTs (X.blk s H scope (compEnvC scope cl C X.env) fp) ifs tt)
    (hk : ∀ (s : Shared) (H : Hp) (C : Addr) (cl : List (Str × Addr)) (fp : List Addr), PE (X.blk s H scope (compEnvC scope cl C X.env) fp) kx tk)
    (he : ∀ (s : Shared) (H : Hp) (C : Addr) (cl : List (Str × Addr)) (fp : List Addr), PE (X.blk s H scope (compEnvC scope cl C X.env) fp) vx tv) (hs : ∀ x, foldedSetIterable iter X.env x = pure x := by intro _; rfl) :
    PS X (.Assign [.Name y py] (.DictComp kx vx [⟨tg, iter, ifs, 0⟩] scope pos) spos) (tAsg (tDcT wi g tt tk tv (own.map (·.2))) (gName i)) := by
  refine ⟨fun pins s σ H D I h => ?_⟩
  rw [exec_Assign_Name_used _ _ _ _ hsw]
  refine wpAny_bind (wpAny_standAt (wpAny_bind ?_))
  have h : tDcT wi g tt tk tv (own.map (·.2)) σ H (fun x H1 => gName i x σ H1 D.nx) := h
  show wpAny _ X.A (do let _ ← comprehension (.DictComp kx vx [⟨tg, iter, ifs, 0⟩] scope pos) scope X.env (firstIterPos [⟨tg, iter, ifs, 0⟩] pos) newDict false (eval iter X.env) (some (assign (.Name y py) X.env))) _ _ s
  refine wpAny_bind (thn (dcT_core (Qf := fun _ s' => SP X pins D .next s') hu hc hN I hi ok hg ht hk he hs h ?_) fun _ s' hq => wpAny_pure (wpAny_pure hq))
  intro L C s' m H' I' q hn f
  obtain ⟨f0, f1, f2, f3, f4, f5⟩ := f
  refine wpAny_assign_Name (store_ok2 (v := V.ref L) I' hN hy (.inl hyl) rfl (fun s2 I2 hw => ?_) (.inr hyl))
  obtain ⟨a, sb, ha⟩ := hw
  have hne : C ≠ a := by
    intro e
    rcases ha with z | z
    · exact f1 (e.trans z)
    · exact f4 y a z e.symm
  exact ⟨m, hn.sameBut sb hne, fun h3 sb3 => ⟨_, H', I2.turned (t' := s2.toks) (fun b o hb e => (sb3.2 b hb).trans e) f0 f1 f3 f4 f5, q⟩⟩
theorem ps_setDc {i : Nat} {y : Str} {py : Pos} {kx vx tg iter : Expr} {ifs : List Expr} {scope : Scope} {own : List (Str × Nat)} {pos spos : Pos} {wi : TI} {g : TG} {tt : TT} {tk tv : TE} (hc : X.calm = true) (hN : X.N.Nodup) (hy : X.N[i]? = some y) (hyl : X.env.scope.names.lookup y = some .local)
    (hsw : swapsWith (.DictComp kx vx [⟨tg, iter, ifs, 0⟩] scope pos) (some (.Name y py)) spos.line X.env = pure true) (hi : PI X tg iter wi) (ok : BlkOk X.N X.env.scope scope own)
    (hg : ∀ (s : Shared) (H : Hp) (C : Addr) (cl : List (Str × Addr)) (fp : List Addr), PG (X.blk s H scope (compEnvC scope cl C X.env) fp) tg g) (ht : ∀ (s : Shared) (H : Hp) (C : Addr) (cl : List (Str × Addr)) (fp : List Addr), PTs (X.blk s H scope (compEnvC scope cl C X.env) fp) ifs tt)
    (hk : ∀ (s : Shared) (H : Hp) (C : Addr) (cl : List (Str × Addr)) (fp : List Addr), PE (X.blk s H scope (compEnvC scope cl C X.env) fp) kx tk)
    (he : ∀ (s : Shared) (H : Hp) (C : Addr) (cl : List (Str × Addr)) (fp : List Addr), PE (X.blk s H scope (compEnvC scope cl C X.env) fp) vx tv) (hs : ∀ x, foldedSetIterable iter X.env x = pure x := by intro _; rfl) :
    PS X (.Assign [.Name y py] (.DictComp kx vx [⟨tg, iter, ifs, 0⟩] scope pos) spos) (tAsg (tDc wi g tt tk tv (own.map (·.2))) (gName i)) := by
  refine ⟨fun pins s σ H D I h => ?_⟩
  rw [exec_Assign_Name_used _ _ _ _ hsw]
  refine wpAny_bind (wpAny_standAt (wpAny_bind ?_))
  have h : tDc wi g tt tk tv (own.map (·.2)) σ H (fun x H1 => gName i x σ H1 D.nx) := h
  show wpAny _ X.A (do let _ ← comprehension (.DictComp kx vx [⟨tg, iter, ifs, 0⟩] scope pos) scope X.env (firstIterPos [⟨tg, iter, ifs, 0⟩] pos) newDict false (eval iter X.env) (some (assign (.Name y py) X.env))) _ _ s
  refine wpAny_bind (thn (dc_core (Qf := fun _ s' => SP X pins D .next s') hc hN I hi ok hg ht hk he hs h ?_) fun _ s' hq => wpAny_pure (wpAny_pure hq))
  intro L C s' m H' I' q hn f
  obtain ⟨f0, f1, f2, f3, f4, f5⟩ := f
  refine wpAny_assign_Name (store_ok2 (v := V.ref L) I' hN hy (.inl hyl) rfl (fun s2 I2 hw => ?_) (.inr hyl))
  obtain ⟨a, sb, ha⟩ := hw
  have hne : C ≠ a := by
    intro e
    rcases ha with z | z
    · exact f1 (e.trans z)
    · exact f4 y a z e.symm
  exact ⟨m, hn.sameBut sb hne, fun h3 sb3 => ⟨_, H', I2.turned (t' := s2.toks) (fun b o hb e => (sb3.2 b hb).trans e) f0 f1 f3 f4 f5, q⟩⟩
theorem sw_dict {kx vx : Expr} {gs : List Comprehension} {scope : Scope} {pos py : Pos} {y : Str} {l : Nat} {env : Env} (hk : env.scope.kind = .function) (hy : env.scope.names.lookup y = some .local) (hl : (py.line == pos.line) = true)
    (ha : (scope.names.any fun (n, k) => n == y && (k == .local || k == .cell)) = false) : swapsWith (.DictComp kx vx gs scope pos) (some (.Name y py)) l env = pure true := by
  have hb : env.blockKind = .function := by
    unfold Env.blockKind
    rw [hk]
    rfl
  have ky : env.kindOf y = some .local := hy
  unfold swapsWith
  simp only [hb, ky, ha, Expr.pos, hl]
  rfl
end
section
variable {J : It} {n : Nat} {G : Hp → Prop} {Y : Nat → Hp → V → Hp → Prop}
/-- such a comprehension over a walk: Pv by the turn and the heap -/
theorem dcT_it (w : Walk J n G Y) {g : TG} {tt : TT} {tk tv : TE} {vs : List Nat} {σ : St} {H1 : Hp} {D : Addr} {Qd : Hp → Prop} (Pv : Nat → Hp → Prop) (h0 : Pv 0 (upd H1 D (.dT []))) (hG : ∀ i H, i ≤ n → Pv i H → G H)
    (hs : ∀ i x H H', i < n → Pv i H → Y i H x H' → g x (wipe σ vs) H' fun σ2 H2 => wipe σ2 vs = wipe σ vs ∧ tt σ2 H2 fun b H3 =>
      if b = true then tk σ2 H3 fun y H4 => tv σ2 H4 fun z H5 => ∃ (kvs : List (List Key × V)) (k : List Key) (b : Addr), y = .ref b ∧ H5 b = some (.tup (k.map kV)) ∧ H5 D = some (.dT kvs) ∧ kvs.length < sizeLine ∧ Pv (i + 1) (upd H5 D (.dT (putK kvs k z))) else Pv (i + 1) H3) (hd : ∀ H, Pv n H → Qd H) :
    ∃ W : Nat → Nat → Hp → Prop, (∃ m, W 0 m (upd H1 D (.dT []))) ∧ ∀ i m H, W i m H →
      (J.stop i H ∧ Qd H) ∨ (J.go i H ∧ ∃ Nx : Hp → Prop, (∀ H', Nx H' → ∃ m', m' < m ∧ W (i + 1) m' H') ∧ ∀ x H', J.yld i H x H' → g x (wipe σ vs) H' fun σ2 H2 => wipe σ2 vs = wipe σ vs ∧ tt σ2 H2 fun b H3 =>
        if b = true then tk σ2 H3 fun y H4 => tv σ2 H4 fun z H5 => ∃ (kvs : List (List Key × V)) (k : List Key) (b : Addr), y = .ref b ∧ H5 b = some (.tup (k.map kV)) ∧ H5 D = some (.dT kvs) ∧ kvs.length < sizeLine ∧ Nx (upd H5 D (.dT (putK kvs k z))) else Nx H3) := by
  refine ⟨fun i m H => m = n - i ∧ i ≤ n ∧ Pv i H, ⟨n, by simp, Nat.zero_le _, h0⟩, ?_⟩
  rintro i m H ⟨rfl, hi, p⟩
  rcases Nat.lt_or_ge i n with hlt | hge
  · exact .inr ⟨w.goes i H hlt (hG i H hi p), Pv (i + 1), fun H' p' => ⟨n - (i + 1), by omega, rfl, hlt, p'⟩, fun x H' y => hs i x H H' hlt p (w.yields i H x H' hlt (hG i H hi p) y)⟩
  · have e : i = n := Nat.le_antisymm hi hge
    subst e
    exact .inl ⟨w.stops H (hG _ H hi p), hd H p⟩
end
end L2

set_option Elab.async false
set_option linter.all false
set_option maxRecDepth 100000
set_option maxHeartbeats 2000000
/-! short rules for what the texts of this program write, whatever the kinds of the values are -/
namespace Pu
open PySem PySem.Spec PyProof.Rows L2
/-! ### rules with several readings -/
section
variable {X : Cx}
theorem pe_gi {x : Str} {pos : Pos} {n : Int} (hg : Gl X x) (hm : ∃ t, X.mg x = some (.int n t)) (hd : (x == ("__debug__" : Str)) = false := by decide) : PE X (.Name x pos) (tC (.int n)) := by
  obtain ⟨t, h⟩ := hm
  exact pe_glob hg h ⟨_, rfl⟩ hd
theorem pe_gs {x : Str} {pos : Pos} {z : Str} (hg : Gl X x) (hm : ∃ t, X.mg x = some (.str z t)) (hd : (x == ("__debug__" : Str)) = false := by decide) : PE X (.Name x pos) (tC (.str z)) := by
  obtain ⟨t, h⟩ := hm
  exact pe_glob hg h ⟨_, rfl⟩ hd
/-- a + b: ints, or texts, or lists -/
theorem oAdd : OpR X (binaryOp .Add) (fun x y H Q => rI0 (fun i j => .int (i + j)) x y H Q ∨ ((∃ i j, x = .str i ∧ y = .str j ∧ i.length + j.length ≤ sizeLine ∧ Q (.str (i ++ j)) H) ∨ rCat x y H Q)) := op_add.or (op_add_str.or op_cat)
/-! the same with the written part by name: inside a comprehension the context is another, K is not -/
theorem oIn (K : PySem.W.Frag) (h : X.K = K := by rfl) : OpR X (compareOp .In) (fun x y H Q => (∃ (c : Nat) (z : Str), x = .str ⟨#[c]⟩ ∧ y = .str z ∧ Q (.bl (decide (c ∈ z.cps.toList))) H) ∨ rIn K false x y H Q) := by
  subst h
  exact op_in_sign.or op_in_seq
theorem oNotIn (K : PySem.W.Frag) (h : X.K = K := by rfl) : OpR X (compareOp .NotIn) (fun x y H Q => (∃ (c : Nat) (z : Str), x = .str ⟨#[c]⟩ ∧ y = .str z ∧ Q (.bl (!decide (c ∈ z.cps.toList))) H) ∨ rIn K true x y H Q) := by
  subst h
  exact op_notIn_sign.or op_notIn_seq
theorem ixL (K : PySem.W.Frag) (h : X.K = K := by rfl) : IxR X (rIxL K) := by
  subst h
  exact ix_list
theorem ixT (K : PySem.W.Frag) (h : X.K = K := by rfl) : IxR X (rIxT K) := by
  subst h
  exact ix_tup
theorem slL (K : PySem.W.Frag) (h : X.K = K := by rfl) : SlR X (rSlL K) := by
  subst h
  exact sl_list
theorem slT (K : PySem.W.Frag) (h : X.K = K := by rfl) : SlR X (rSlT K) := by
  subst h
  exact sl_tup
theorem isiK (K : PySem.W.Frag) (h : X.K = K := by rfl) : CallR X (.builtin "isinstance") (rIsi K) := by
  subst h
  exact call_isi
/-- len(x): a list, a tuple, or a text -/
theorem lenK (K : PySem.W.Frag) (h : X.K = K := by rfl) : CallR X (.builtin "len") (fun xs H Q => (∃ p ys, xs = [.ref p] ∧ (SqL K H p ys ∨ SqT K H p ys) ∧ Q (.int ys.length) H) ∨ ∃ z, xs = [.str z] ∧ z.length ≤ sizeLine ∧ Q (.int z.length) H) := by
  subst h
  exact call_len_seq.or call_len_str
end
/-! ### a def of the module, as its callers see it -/
structure Cal (P : Program) (w : World) (K : PySem.W.Frag) (mg : Str → Option Value) (base : Heap) (k : Nat) (x : Str) (sp : Sp) (dvs : List V) : Prop where
  ex : ∃ (f : Addr) (fd : FuncData) (ps : List Str) (ds : List Value), FnOk P w K mg base CX0 k f fd ps sp ∧ mg x = some (.ref f) ∧ PySem.W.keepIn K (.ref f) = true ∧ Binds K fd ps ds ∧ Vals dvs ds
theorem Cal.mk0 {P : Program} {w : World} {K : PySem.W.Frag} {mg : Str → Option Value} {base : Heap} {k : Nat} {x : Str} {sp : Sp} {f : Addr} {fd : FuncData} {ps : List Str} (F : FnOk P w K mg base CX0 k f fd ps sp) (hm : mg x = some (.ref f)) (kp : PySem.W.keepIn K (.ref f) = true) (b : Binds K fd ps []) : Cal P w K mg base k x sp [] :=
  ⟨f, fd, ps, [], F, hm, kp, b, .nil⟩
theorem pe_c {X : Cx} {k j : Nat} {x : Str} {sp : Sp} {dvs : List V} {e : Expr} {es : List Expr} {t : TA} {p pos : Pos} (c : Cal X.prog X.w X.K X.mg X.base k x sp dvs) (hr : Room j X.A) (hk : k ≤ j) (hg : Gl X x) (ha : PA X (e :: es) t)
    (hdb : (x == ("__debug__" : Str)) = false := by decide) (he : starEach (e :: es) X.env = (false, eval e X.env) :: starEach es X.env := by rfl) (hpl : (backTo pos (starEach es X.env)).any (·.1) = false := by rfl) :
    PE X (.Call (.Name x p) (e :: es) [] pos) (tCall sp dvs E0 t) := by
  obtain ⟨f, fd, ps, ds, F, hm, kp, b, d⟩ := c.ex
  exact pe_call F (hr.mono hk) hg hm kp b d pass0 ha hdb he hpl
/-! ### a statement, then the rest, with a word of ours between them -/
def tCut (t u : TS) : TS := fun D σ H => ∃ Mid : L2.St → Hp → Prop, t { D with nx := Mid } σ H ∧ ∀ σ' H', Mid σ' H' → u D σ' H'
theorem pss_cut {X : Cx} {st : Stmt} {rest : List Stmt} {t u : TS} (h1 : PS X st t) (h2 : PSs X rest u) : PSs X (st :: rest) (tCut t u) := by
  refine ⟨fun pins s σ H D I ⟨Mid, hm, hu⟩ => ?_⟩
  refine wpAny_execs_cons (thn (h1.run pins s σ H { D with nx := Mid } I hm) fun f s1 q => ?_)
  cases f with
  | next =>
    obtain ⟨σ', H', I', q⟩ := q
    exact h2.run pins s1 σ' H' D I' (hu σ' H' q)
  | ret v => exact q
  | brk => exact q
  | cont => exact q
theorem same_upd {H : Hp} {p : Addr} {o : HO} (h : H p = none) : Same H (upd H p o) := fun b x e => by
  rw [upd_ne (ne_of_none e h)]
  exact e
/-! ### heaps that only grow, but for one object -/
def Ext (b : Addr) (H H' : Hp) : Prop := ∀ a o, a ≠ b → H a = some o → H' a = some o
theorem Ext.refl {b : Addr} (H : Hp) : Ext b H H := fun _ _ _ h => h
theorem Ext.trans {b : Addr} {H H1 H2 : Hp} (e : Ext b H H1) (f : Ext b H1 H2) : Ext b H H2 := fun a o n h => f a o n (e a o n h)
theorem Ext.new {b p : Addr} {H : Hp} {o : HO} (h : H p = none) : Ext b H (upd H p o) := fun a o _ e => by
  rw [upd_ne (ne_of_none e h)]
  exact e
theorem Ext.at {b : Addr} {H : Hp} {o : HO} : Ext b H (upd H b o) := fun a u n e => by
  rw [upd_ne n]
  exact e
theorem Ext.mut {b p : Addr} {H H' : Hp} {o : HO} (e : Ext b H H') (h : H p = none) : Ext b H (upd H' p o) := fun a u n ha => by
  rw [upd_ne (ne_of_none ha h)]
  exact e a u n ha
/-! ### the three numbers that a law draws from -/
def Box (H : Hp) (b : Addr) (n : Int) : Prop := ∃ x y z : Int, H b = some (.lst [.int x, .int y, .int z]) ∧ 0 ≤ x ∧ 0 ≤ y ∧ y < 2147483648 ∧ 0 ≤ z ∧ z ≤ n
theorem Box.new {H : Hp} {b p : Addr} {n : Int} {o : HO} (h : Box H b n) (hp : H p = none) : Box (upd H p o) b n := by
  obtain ⟨x, y, z, e, r⟩ := h
  exact ⟨x, y, z, by rw [upd_ne (ne_of_none e hp)]; exact e, r⟩
theorem Box.upd {H : Hp} {b p : Addr} {n : Int} {o : HO} (h : Box H b n) (hp : b ≠ p) : Box (upd H p o) b n := by
  obtain ⟨x, y, z, e, r⟩ := h
  exact ⟨x, y, z, by rw [upd_ne hp]; exact e, r⟩
theorem Box.ne {H : Hp} {b p : Addr} {n : Int} (h : Box H b n) (hp : H p = none) : b ≠ p := by
  obtain ⟨x, y, z, e, r⟩ := h
  exact ne_of_none e hp
theorem Box.mono {H : Hp} {b : Addr} {n m : Int} (h : Box H b n) (hp : n ≤ m) : Box H b m := by
  obtain ⟨x, y, z, e, r1, r2, r3, r4, r5⟩ := h
  exact ⟨x, y, z, e, r1, r2, r3, r4, by omega⟩
theorem sz (n : Nat) (h : n ≤ 100000 := by first | decide | omega) : n ≤ sizeLine := Nat.le_trans h (by decide)
/-- draws a number below m -/
def spTake : Sp := fun vs H Q _ => ∃ (b : Addr) (m n : Int), vs = [.ref b, .int m] ∧ 0 < m ∧ m < 2 ^ 140 ∧ n ≤ 1000000 ∧ Box H b n ∧
  ∀ d H', 0 ≤ d → d < m → Box H' b (n + 1) → Ext b H H' → Q (.int d) H'
def spCell (K : PySem.W.Frag) : Sp := fun vs H Q _ => ∃ (a : Addr) (ns : List Int) (k : Nat), vs = [.ref a, .int k] ∧ SqL K H a (ns.map V.int) ∧ ∀ i, Q (.int i) H
def spBox : Sp := fun vs H Q _ => ∃ i : Int, vs = [.int i] ∧ ∀ p H', H p = none → Box H' p 0 → (∀ a, a ≠ p → H' a = H a) → Q (.ref p) H'
end Pu

set_option Elab.async false
set_option linter.all false
set_option maxRecDepth 100000
set_option maxHeartbeats 2000000
namespace Pu
open PySem PySem.Spec PyProof.Rows L2
/-! ### an item at a drawn place -/
theorem pickN {α : Type} {xs : List α} {i : Int} (h0 : 0 ≤ i) (h1 : i < xs.length) : ∃ v, atI xs i = some v ∧ v ∈ xs := by
  obtain ⟨k, rfl⟩ := Int.eq_ofNat_of_zero_le h0
  have hk : k < xs.length := by omega
  exact ⟨xs[k], atI_nat (List.getElem?_eq_getElem hk), List.getElem_mem hk⟩
/-! ### texts: lengths -/
theorem len_app (x y : Str) : (x ++ y).length = x.length + y.length := PySem.Str.length_append x y
theorem len_cut (z : Str) (lo hi : Option Int) : (cutS z lo hi).length ≤ z.length := by
  show (List.toArray _).size ≤ z.cps.size
  rw [List.size_toArray, List.length_take, List.length_drop, Array.length_toList]
  show min _ (z.cps.size - _) ≤ z.cps.size
  omega
theorem sum_app (xs ys : List Nat) : (xs ++ ys).sum = xs.sum + ys.sum := List.sum_append
theorem len_join0 : ∀ ys : List Str, (Txt.join ("" : Str) ys).length = (ys.map (·.length)).sum := by
  intro ys
  rw [show Txt.join ("" : Str) ys = PySem.Str.join ("" : Str) ys from PySem.StrLaws.glued_eq_join _ _]
  induction ys with
  | nil => rfl
  | cons x r ih =>
    cases r with
    | nil =>
      show x.length = x.length + 0
      rfl
    | cons y r =>
      show (x ++ ("" : Str) ++ PySem.Str.join ("" : Str) (y :: r)).length = _
      rw [len_app, len_app, ih]
      show x.length + 0 + _ = x.length + _
      rfl
theorem len_one (c : Nat) : (⟨#[c]⟩ : Str).length = 1 := rfl
/-- texts of one sign each -/
theorem sum_ones : ∀ ys : List Str, (∀ y ∈ ys, y.length = 1) → (ys.map (·.length)).sum = ys.length
  | [], _ => rfl
  | y :: r, h => by
    rw [List.map_cons, List.sum_cons, List.length_cons, h y (List.mem_cons_self ..), sum_ones r fun z hz => h z (List.mem_cons_of_mem _ hz)]
    omega
end Pu

set_option Elab.async false
set_option linter.all false
set_option maxRecDepth 100000
set_option maxHeartbeats 4000000
/-! what a def may know of the shows (repr) that are under way around it: none. A def that says repr keeps its promise there alone, and so do its callers. -/
namespace Pu
open PySem PySem.Spec PyProof.Rows L2
structure FnG (P : Program) (w : World) (K : PySem.W.Frag) (mg : Str → Option Value) (base : Heap) (CX : CXT) (k : Nat) (f : Addr) (fd : FuncData) (ps : List Str) (sp : Sp) : Prop where
  arity : ∀ args H Q E, sp args H Q E → args.length = ps.length
  go : ∀ (A : Around) (outer : List Env) (s : Shared) (H : Hp) (given : Args) (ws : List Value) (args : List V) (Q : VK) (E : XK), A.guards = some [] → Room k A → Env0 P w K mg base A outer s H → BindsTo s fd given (ps.zip ws) → Vals args ws → sp args H Q E →
    codeAny (model P w) A (.call (.ref f) given) (CR CX outer P w H s Q E) s
section
variable {P : Program} {w : World} {K : PySem.W.Frag} {mg : Str → Option Value} {base : Heap} {CX : CXT}
/-- a def of the text, its body walked where no show is under way -/
theorem fnG {x qual : Str} {st : Stmt} {f : Addr} {fd : FuncData} {N ps : List Str} {k : Nat} {sp : Sp} (F : Fun K x qual st f fd) (S : FnScope N ps (defScope st)) (ar : ∀ args H Q E, sp args H Q E → args.length = ps.length)
    (body : ∀ (cdv : Value) (A : Around) (outer : List Env) (s : Shared) (H : Hp) (args : List V) (Q : VK) (E : XK), A.guards = some [] → Room k (A.deeper (envOfC qual (defScope st) s.heap.objs.size f cdv)) → sp args H Q E →
      ∃ t, PSs (cxOf CX P w K mg base N qual (defScope st) f cdv A outer s H E).nox (defBody st) t ∧ t { nx := fun _ H' => Q .non H', rt := Q } (start N args) H) : FnG P w K mg base CX (k + 1) f fd ps sp := by
  obtain ⟨oc, od, kV, doc, pm, an, cdv, ct, osl, hfd, lk, hcd⟩ := F.ex
  subst hfd
  constructor
  · exact ar
  intro A outer s H given ws args Q E hG hr e0 hb rv hs
  have nargs := ar _ _ _ _ hs
  have inK : K.In s.heap := e0.mod.kin.keeps fun b o z => (e0.bs b o z).1
  have free : s.heap.NoLimit := e0.mod.nolimit.keeps fun b o z => (e0.bs b o z).1
  have kinds : ∀ y ∈ ps.zip ws, (defScope st).names.lookup y.1 = some .local ∨ ((defScope st).names.lookup y.1 = some .cell ∧ ((cellsFrom (s.heap.objs.size + 1) (defScope st).names []).lookup y.1).isSome = true) := by
    rintro ⟨n, v⟩ hy
    exact (S.par n (List.of_mem_zip hy).1).imp id fun q => ⟨q, PySem.W.cellsFrom_some _ _ _ (.inl q)⟩
  refine codeAny_call_function hr.depth (inK _ _ lk) rfl S.co S.gen rfl (PySem.W.codeRec_of inK hcd) (hb _ _ _ _ (wpAny_newFunctionEnv_cells S.kind kinds ?_))
  rintro env rfl s1 made
  refine ⟨free.keeps made.toInCall.keep, codeAny_func ?_⟩
  obtain ⟨t, walk, read⟩ := body cdv A outer s H args Q E hG (hr.deeper _) hs
  have I0 : Inv (cxOf CX P w K mg base N qual (defScope st) f cdv A outer s H E) [] (start N args) H s1 := inv_start S hr.hd e0 nargs rv made
  have over : ∀ (σ' : L2.St) (H' : Hp) (v : V) (u : Value) (s' : Shared), Inv (cxOf CX P w K mg base N qual (defScope st) f cdv A outer s H E) [] σ' H' s' → RelV v u → Q v H' → CE outer P w H s Q u s' := by
    intro σ' H' v u s' J r q
    exact ⟨v, H', J.os, J.bare, J.base, J.hok, r, q⟩
  refine wpAny_mono (walk.nox.run [] s1 (start N args) H _ I0 read) ?_ (fun _ _ z => z)
  rintro (_ | _ | _ | u) s' z
  · obtain ⟨σ', H', J, q⟩ := z
    exact over σ' H' .non Value.none s' J rfl q
  · exact (z.elim fun _ r => r.elim fun _ r => r.2.elim)
  · exact (z.elim fun _ r => r.elim fun _ r => r.2.elim)
  · obtain ⟨v, σ', H', J, r, q⟩ := z
    exact over σ' H' v u s' J r q
end
/-- such a def of the module, as its callers see it -/
structure CalG (P : Program) (w : World) (K : PySem.W.Frag) (mg : Str → Option Value) (base : Heap) (k : Nat) (x : Str) (sp : Sp) : Prop where
  ex : ∃ (f : Addr) (fd : FuncData) (ps : List Str), FnG P w K mg base CX0 k f fd ps sp ∧ mg x = some (.ref f) ∧ PySem.W.keepIn K (.ref f) = true ∧ Binds K fd ps []
theorem CalG.mk0 {P : Program} {w : World} {K : PySem.W.Frag} {mg : Str → Option Value} {base : Heap} {k : Nat} {x : Str} {sp : Sp} {f : Addr} {fd : FuncData} {ps : List Str} (F : FnG P w K mg base CX0 k f fd ps sp) (hm : mg x = some (.ref f)) (kp : PySem.W.keepIn K (.ref f) = true) (b : Binds K fd ps []) : CalG P w K mg base k x sp :=
  ⟨f, fd, ps, F, hm, kp, b⟩
theorem pe_cG {X : Cx} {k j : Nat} {x : Str} {sp : Sp} {e : Expr} {es : List Expr} {t : TA} {p pos : Pos} (c : CalG X.prog X.w X.K X.mg X.base k x sp) (hG : X.A.guards = some []) (hr : Room j X.A) (hk : k ≤ j) (hg : Gl X x) (ha : PA X (e :: es) t)
    (hdb : (x == ("__debug__" : Str)) = false := by decide) (he : starEach (e :: es) X.env = (false, eval e X.env) :: starEach es X.env := by rfl) (hpl : (backTo pos (starEach es X.env)).any (·.1) = false := by rfl) :
    PE X (.Call (.Name x p) (e :: es) [] pos) (tCall sp [] E0 t) := by
  obtain ⟨f, fd, ps, F, hm, kp, bd⟩ := c.ex
  constructor
  intro pins s σ H Q I read
  refine wpAny_Call_Name_kw (ld_glob I hg hm (PySem.W.callWith_K (h₀ := X.base) I.ok.mod.kin kp (thn (ha.run pos pins s σ H _ I read) ?_) he hpl) hdb)
  rintro us s1 ⟨vs, H1, I1, rv, q⟩
  refine ⟨I1.kIn, wpAny_call ?_⟩
  have q' : sp vs H1 Q E0 := by
    have := q
    rw [List.append_nil] at this
    exact this
  have hl : us.length = ps.length := by
    rw [← rv.length]
    exact F.arity _ _ _ _ q'
  have hb := bd s1 us I1.kIn (by rw [List.append_nil]; exact hl)
  rw [List.append_nil] at hb
  refine codeAny_mono (F.go X.A X.stack s1 H1 ⟨us, []⟩ us vs Q E0 hG (hr.mono hk) I1.env0 hb rv q') ?_
  rintro (e | (_ | _ | _ | u)) s2 z
  · exact (pass0 pins σ H1 s1 e s2 I1 z)
  · exact (show False from z).elim
  · exact (show False from z).elim
  · exact (show False from z).elim
  · exact I1.after z
end Pu

set_option Elab.async false
set_option linter.all false
set_option maxRecDepth 100000
set_option maxHeartbeats 4000000
/-! the end of a law whose def says repr; repr itself, of plain data of any depth -/
namespace Pu
open PySem PySem.Spec PyProof.Rows L2
section
variable {P : Program} {w : World} {K : PySem.W.Frag} {mg mb : Str → Option Value}
/-- the heap that is told of at the law's start: the script alone, if it is no object of the text's own -/
theorem start_env {s₁ : Shared} {a : Addr} {vs : List Value} {ns : List Int} (KX : K.In s₁.heap) (hm : s₁.heap.Ns mainGlobals mg) (hb : s₁.heap.Ns builtinsNs mb) (hbb : ∀ x : Str, x ≠ "__name__" → mb x = bootBuiltins x) (hl : s₁.heap.NoLimit) (hg : s₁.gens = #[])
    (ha : s₁.heap.get? a = some { cls := .type "list", data := .seq vs.toArray }) (hi : IntsAre vs ns) (hz : ns.length ≤ sizeLine) :
    ∃ H : Hp, SqL K H a (ns.map V.int) ∧ K.In (hidT s₁.heap H) ∧ (hidT s₁.heap H).Ns mainGlobals mg ∧ Env0 P w K mg (hidT s₁.heap H) callerA [] s₁ H ∧
      ∀ (H' : Hp) (s' : Shared), Un (frs []) [] H H' s₁.heap s'.heap → HOk P w H' s'.heap → OldK s₁.heap s'.heap := by
  have rv := vals_ints hi
  have key : ∃ H : Hp, SqL K H a (ns.map V.int) ∧ (∀ b u, H b = some u → b = a ∧ K.lookup a = none ∧ u = .frz { cls := .type "list", data := .seq vs.toArray } (.lst (ns.map V.int))) := by
    cases hk : K.lookup a with
    | none =>
      refine ⟨fun b => if b = a then some (.frz { cls := .type "list", data := .seq vs.toArray } (.lst (ns.map V.int))) else none, .inl (.inr ⟨_, if_pos rfl⟩), fun b u z => ?_⟩
      have z : (if b = a then some (HO.frz { cls := .type "list", data := .seq vs.toArray } (.lst (ns.map V.int))) else none) = some u := z
      by_cases hb : b = a
      · rw [if_pos hb] at z
        exact ⟨hb, rfl, (Option.some.inj z).symm⟩
      · rw [if_neg hb] at z
        cases z
    | some o =>
      have e := ha.symm.trans (KX a o hk)
      cases e
      exact ⟨fun _ => none, .inr ⟨_, vs.toArray, _, hk, rfl, rfl, rfl, by rw [List.size_toArray, hi.length]; exact hz, rv⟩, fun b u z => by cases z⟩
  obtain ⟨H, hS, only⟩ := key
  have get : ∀ {b : Addr} {o : Obj}, s₁.heap.get? b = some o → (∀ u, H b = some u → False) → (hidT s₁.heap H).get? b = some o := fun {b o} e n => hidT_get e (by
    cases q : H b with
    | none => rfl
    | some u => exact (n u q).elim)
  have noDict : ∀ {b : Addr} {o : Obj} {es : Array DictEntry} {ep : Nat}, s₁.heap.get? b = some o → o.data = .dict es ep → ∀ u, H b = some u → False := fun {b o es ep} e d u z => by
    obtain ⟨rfl, _, _⟩ := only b u z
    rw [ha] at e
    cases e
    cases d
  have ns : ∀ {b : Addr} {m : Str → Option Value}, s₁.heap.Ns b m → (hidT s₁.heap H).Ns b m := fun ⟨o, es, ep, e, d, r⟩ => ⟨o, es, ep, get e (noDict e d), d, r⟩
  have inK : K.In (hidT s₁.heap H) := fun b o e => get (KX b o e) fun u z => by
    obtain ⟨rfl, n, _⟩ := only b u z
    rw [n] at e
    cases e
  have ok : HOk P w H s₁.heap := fun b u z => by
    obtain ⟨rfl, _, rfl⟩ := only b u z
    exact ⟨ha, by rw [List.length_map]; exact hz, vs, _, rv, ha⟩
  refine ⟨H, hS, inK, ns hm, ⟨rfl, ⟨inK, ns hm, ⟨mb, ns hb, hbb⟩, ?_⟩, fun b o e => of_hidT e, Nat.le_of_eq (hidT_size _ _), trivial, ?_, ok, .of_eq hg⟩, ?_⟩
  · obtain ⟨mc, h1, h2⟩ := hl
    exact ⟨mc, ns h1, h2⟩
  · intro b z
    exact absurd (show b ∈ ([] : List Addr) from z) List.not_mem_nil
  · intro H' s' un ok'
    refine OldK.of_keep fun b o e => ?_
    cases q : H b with
    | none => exact un.keep b o e q (fun z => absurd (show b ∈ ([] : List Addr) from z) List.not_mem_nil) List.not_mem_nil
    | some u =>
      obtain ⟨rfl, _, rfl⟩ := only b u q
      have z := (ok' b _ (un.frzs b _ _ q)).1
      have e0 := (ok b _ q).1
      rw [e] at e0
      cases e0
      exact z
/-- the goal that k_head leaves, from the promise of a law that says repr -/
theorem walk_G {l : PySem.W.OpenLaw} {n k : Nat} {q : Program} {loose : List Str} {XP : (Str → Option Value) → Heap → Prop} {YP : World → Heap → Prop} {d : DefRec} {K : Params → PySem.W.Frag} {sp : World → Sp} {x : Str}
    (hn : l.most = some n) (hn2 : n ≤ sizeLine) (hdf : d.params.defaults = []) (hr : Room k callerA) (hY : ∀ (w : World) (h : Heap), YP w h → (K w.params).In h)
    (F : ∀ (w : World) (mg : Str → Option Value) (fa : Addr) (h : Heap), (K w.params).In h → h.Ns mainGlobals mg → mg d.name = some (.ref fa) →
      ∃ fd : FuncData, (∀ (s : Shared) (u : Value), BindsTo s fd ⟨[u], []⟩ [(x, u)]) ∧ ∀ base : Heap, (K w.params).In base → base.Ns mainGlobals mg → FnG l.prog w (K w.params) mg base CX0 k fa fd [x] (sp w))
    (hsp : ∀ (w : World) (H : Hp) (a : Addr) (ns : List Int), ns.length ≤ n → SqL (K w.params) H a (ns.map V.int) → sp w [.ref a] H (fun v _ => v = .bl true) fun _ _ _ => False) :
    PySem.W.WalkO q loose XP YP l.row.toRowW d [] (fun f vs => PySem.call f vs) := by
  refine Att.attach_call hn hdf ?_
  intro w s₀ s₁ mg mb fa o pm cd doc a vs ns G Y ho hd hcd hmg hobj hints hlen hg
  have KX := hY w _ Y
  obtain ⟨fd, hb, hF⟩ := F w mg fa _ KX G.T.g hmg
  obtain ⟨H, hS, hK, hN, e0, old⟩ := start_env (P := l.prog) (w := w) KX G.T.g G.T.b G.T.builtins G.T.nolimit hg hobj hints (Nat.le_trans hlen hn2)
  refine codeAny_mono ((hF _ hK hN).go callerA [] s₁ H ⟨[.ref a], []⟩ [.ref a] [.ref a] _ _ rfl hr e0 (hb s₁ (.ref a)) (.cons rfl .nil) (hsp w H a ns hlen hS)) ?_
  rintro (e | (_ | _ | _ | u)) s' z
  · exact (show False from z).elim
  · exact (show False from z).elim
  · exact (show False from z).elim
  · exact (show False from z).elim
  · obtain ⟨v, H', os, bare, un, ok', r, rfl⟩ := z
    cases (show u = Value.bool true from r)
    exact ⟨rfl, old H' s' un ok', os, bare⟩
end
/-! ### repr -/
mutual
theorem Dp.noDict {K : PySem.W.Frag} {H : Hp} : ∀ {d : PyData} {v : V}, Dp K H v d → d.hasDict = false
  | .none, _, _ => by simp only [PyData.hasDict]
  | .bool _, _, _ => by simp only [PyData.hasDict]
  | .int _, _, _ => by simp only [PyData.hasDict]
  | .str _, _, _ => by simp only [PyData.hasDict]
  | .list _, _, h => by
    cases h with
    | lst _ ha =>
      simp only [PyData.hasDict]
      exact DpAll.noDict ha
  | .tuple _, _, h => by
    cases h with
    | tup _ ha =>
      simp only [PyData.hasDict]
      exact DpAll.noDict ha
  | .dict _, _, h => by cases h
theorem DpAll.noDict {K : PySem.W.Frag} {H : Hp} : ∀ {ds : List PyData} {vs : List V}, DpAll K H vs ds → PyData.hasDictAll ds = false
  | [], _, _ => by simp only [PyData.hasDictAll]
  | _ :: _, _, h => by
    cases h with
    | cons h1 h2 =>
      simp only [PyData.hasDictAll, Dp.noDict h1, DpAll.noDict h2, Bool.or_self]
end
def rRepr (K : PySem.W.Frag) : List V → Hp → VK → Prop := fun xs H Q => ∃ x d, xs = [x] ∧ Dp K H x d ∧ d.showable = true ∧ d.depth ≤ 40 ∧ d.shown.length ≤ sizeLine ∧ Q (.str d.shown) H
theorem reprG {X : Cx} (K : PySem.W.Frag) (hG : X.A.guards = some []) (hu : X.A.units + 64 < cLine) (hK : X.K = K := by rfl) : CallR X (.builtin "repr") (rRepr K) := by
  subst hK
  intro pins s σ H xs us Q I r h
  obtain ⟨x, d, rfl, hd, hs, hdp, hz, q⟩ := h
  obtain ⟨u, rfl, ru⟩ := vals1 r
  obtain ⟨as, rd⟩ := Dp.reads I d x u hd ru
  have nd := Dp.noDict hd
  have grown : ∀ (h' : Heap) (u' tk : Tok), (∀ b o, s.heap.get? b = some o → h'.get? b = some o) → EP X pins σ Q (.str d.shown u') { s with heap := h', toks := tk } := fun h' u' tk k =>
    ⟨.str d.shown, H, I.turnedL (ch := []) (fun b o _ e => k b o e) (fun _ hb => absurd hb List.not_mem_nil), ⟨u', rfl⟩, q⟩
  have same : ∀ (u' : Tok) (tk : Nat), EP X pins σ Q (.str d.shown u') { s with toks := tk } := fun u' tk => ⟨.str d.shown, H, I.tok _, ⟨u', rfl⟩, q⟩
  cases rd with
  | none => exact PySem.P.repr_of_none (same _ _)
  | bool b => exact PySem.P.repr_of_bool (same _ _)
  | int i t =>
    have hs' : decide (i.natAbs.log2 < 1920) = true := hs
    exact PySem.P.repr_of_int (of_decide_eq_true hs') (same _ _)
  | str z t => exact PySem.P.repr_of_str (same _ _) hz
  | list a1 a2 a3 a4 => exact repr_of_reads' (.list a1 a2 a3 a4) hs (PyData.noDict_hsm nd) hG (by omega) (fun _ _ e => e) grown hz
  | tuple a1 a2 a3 a4 => exact repr_of_reads' (.tuple a1 a2 a3 a4) hs (PyData.noDict_hsm nd) hG (by omega) (fun _ _ e => e) grown hz
  | dict _ _ _ _ _ => cases hd
end Pu

set_option Elab.async false
set_option linter.all false
set_option maxRecDepth 100000
set_option maxHeartbeats 4000000
/-! calls that name their arguments; how long a show is; != of lists -/
namespace Pu
open PySem PySem.Spec PyProof.Rows L2
structure CalN (P : Program) (w : World) (K : PySem.W.Frag) (mg : Str → Option Value) (base : Heap) (k : Nat) (x : Str) (n : Nat) (ks : List Str) (gV : List V → List V → List V) (sp : Sp) : Prop where
  ex : ∃ (f : Addr) (fd : FuncData) (ps : List Str) (g : List Value → List Value → List Value), FnOk P w K mg base CX0 k f fd ps sp ∧ mg x = some (.ref f) ∧ PySem.W.keepIn K (.ref f) = true ∧ KBn K fd ps n ks g gV
theorem pe_cN {X : Cx} {k j n : Nat} {x : Str} {ks : List Str} {gV : List V → List V → List V} {sp : Sp} {e : Expr} {es : List Expr} {kws : List Keyword} {t tk : TA} {p pos : Pos} (c : CalN X.prog X.w X.K X.mg X.base k x n ks gV sp) (hr : Room j X.A) (hk : k ≤ j) (hg : Gl X x) (ha : PA X (e :: es) t) (hw : PK X kws tk)
    (hall : (backToKw pos (keywordEach kws X.env)).all (·.1.isSome) = true := by rfl) (hks : (backToKw pos (keywordEach kws X.env)).filterMap (·.1) = ks := by rfl)
    (hdb : (x == ("__debug__" : Str)) = false := by decide) (he : starEach (e :: es) X.env = (false, eval e X.env) :: starEach es X.env := by rfl)
    (hpl : ((backTo pos (starEach (e :: es) X.env)).any (·.1) || (backToKw pos (keywordEach kws X.env)).any (·.1.isNone)) = false := by rfl) : PE X (.Call (.Name x p) (e :: es) kws pos) (tCallN n ks.length sp gV E0 t tk) := by
  obtain ⟨f, fd, ps, g, F, hm, kp, kb⟩ := c.ex
  exact pe_callN F (hr.mono hk) hg hm kp kb pass0 ha hw hall hks hdb he hpl
/-- keyword-only parameters alone have defaults; n values are written, the keywords ks too, those of ms lack -/
theorem kb0 {K : PySem.W.Frag} {x qual : Str} {params : Arguments} {body : List Stmt} {scope : Scope} {kws : List (Str × V)} {f : Addr} {fd : FuncData} {ps : List Str} (F : FunD K x qual params body scope [] kws f fd) (n : Nat) (ks : List Str) (ms : List (Str × V)) (g : {α : Type} → List α → List α → List α → List α) (hk : kws ≠ []) (hms : ∀ q ∈ ms, q ∈ kws)
    (hrel : ∀ {vs mz zs : List V} {us mv ws : List Value}, Vals vs us → Vals mz mv → Vals zs ws → Vals (g vs mz zs) (g us mv ws))
    (h : ∀ (D : Addr) (doc pm : Value) (an : Option Addr) (cdv ct : Value) (us mv ws : List Value), us.length = n → mv.length = ms.length → ws.length = ks.length →
      KwChain D ((ms.map (·.1)).zip mv) (bindArgs (PySem.W.fnOf x qual params body scope .none (.ref D) doc pm an cdv ct) ⟨us, ks.zip ws⟩) (ps.zip (g us mv ws))) :
    ∃ mv : List Value, KBn K fd ps n ks (fun us ws => g us mv ws) (fun vs zs => g vs (ms.map (·.2)) zs) := by
  obtain ⟨oc, od, dV, kV, doc, pm, an, cdv, ct, osl, hfd, lk, hcd, hD, hK⟩ := F.ex
  subst hfd
  rcases hD with ⟨_, rfl⟩ | ⟨z, _⟩
  · rcases hK with z | ⟨D, rfl, hq⟩
    · exact absurd z hk
    · obtain ⟨mv, hl, rk, hin⟩ := kwd_vals (ms := ms) fun q hm => hq q (hms q hm)
      exact ⟨mv, fun s us ws X l1 l2 => BindsTo.of_looks fun M => KwChain.looks X hin (h D doc pm an cdv ct us mv ws l1 hl l2), fun r1 r2 => hrel r1 rk r2⟩
  · exact absurd rfl z
/-! ### how long a show is -/
theorem textFrom0 (ts : List Str) (acc : Str) : (textFrom 0 acc ts).length ≤ acc.length + piled ts := by
  cases ts with
  | nil =>
    show acc.length ≤ _
    omega
  | cons t r =>
    have h := textFrom_length_pos r 1 (acc ++ t) (by decide)
    have e : textFrom 0 acc (t :: r) = textFrom 1 (acc ++ t) r := rfl
    rw [e, h, len_app, piled_cons]
    omega
theorem listText_le (ts : List Str) : (listText ts).length ≤ piled ts + 2 := by
  have h := textFrom0 ts "["
  have e : ("[" : Str).length = 1 := rfl
  have e2 : ("]" : Str).length = 1 := rfl
  show (textFrom 0 "[" ts ++ "]").length ≤ _
  rw [len_app, e2]
  omega
theorem int_len {i : Int} (h : i.natAbs < 10 ^ 40) : ((toString i : String) : Str).length ≤ 41 := by
  have e := int_text_length_le10 (k := 40) (by decide) h
  rw [PySem.ofString_length]
  omega
theorem log_small {i : Int} (h : i.natAbs < 10 ^ 40) : i.natAbs.log2 < 1920 := by
  by_cases h0 : i.natAbs = 0
  · rw [h0]
    decide
  · rw [Nat.log2_lt h0]
    exact Nat.lt_of_lt_of_le h (by decide +kernel)
/-! ### deep == and != with the written part by name -/
theorem eqDK {X : Cx} {k : Nat} (K : PySem.W.Frag) (hr : Room k X.A) (h : X.K = K := by rfl) : OpR X (compareOp .Eq) (rEqD K) := by
  subst h
  exact op_eqD hr.units
theorem neDK {X : Cx} {k : Nat} (K : PySem.W.Frag) (hr : Room k X.A) (h : X.K = K := by rfl) : OpR X (compareOp .NotEq) (rNeD K) := by
  subst h
  exact op_neD hr.units
/-! ### texts of small signs, lists of texts -/
def Asc (z : Str) : Prop := ∀ c ∈ z.cps.toList, c < 128
theorem asc_ok {z : Str} (h : Asc z) : PyData.canLay0 (.str z) = true := by
  simp only [PyData.canLay0]
  unfold PyData.strOk
  rw [Array.all_eq_true']
  intro c hc
  have := h c (Array.mem_toList_iff.mpr hc)
  simp
  omega
theorem asc_app {x y : Str} (hx : Asc x) (hy : Asc y) : Asc (x ++ y) := by
  intro c hc
  have e : (x ++ y).cps.toList = x.cps.toList ++ y.cps.toList := Array.toList_append
  rw [e] at hc
  rcases List.mem_append.mp hc with h | h
  · exact hx c h
  · exact hy c h
theorem asc_cut {z : Str} (h : Asc z) (lo hi : Option Int) : Asc (cutS z lo hi) := by
  intro c hc
  exact h c (List.mem_of_mem_drop (List.mem_of_mem_take hc))
theorem asc_one {c : Nat} (h : c < 128) : Asc ⟨#[c]⟩ := by
  intro d hd
  have : d = c := by simpa using hd
  omega
theorem asc_join {a : Str} (ha : Asc a) : ∀ {ys : List Str}, (∀ y ∈ ys, Asc y) → Asc (Txt.join a ys) := by
  intro ys
  rw [show Txt.join a ys = PySem.Str.join a ys from PySem.StrLaws.glued_eq_join _ _]
  induction ys with
  | nil =>
    intro _ c hc
    cases hc
  | cons x r ih =>
    intro h
    cases r with
    | nil => exact h x (List.mem_cons_self ..)
    | cons y r => exact asc_app (asc_app (h x (List.mem_cons_self ..)) ha) (ih fun z hz => h z (List.mem_cons_of_mem _ hz))
theorem len_join (a : Str) (ys : List Str) : (Txt.join a ys).length ≤ (ys.map (·.length)).sum + ys.length * a.length := by
  rw [show Txt.join a ys = PySem.Str.join a ys from PySem.StrLaws.glued_eq_join _ _]
  exact StrLaws.join_length_le a ys
theorem asc_nil : Asc ("" : Str) := fun c hc => by cases hc
theorem asc_dec (z : Str) (h : (z.cps.toList.all fun c => decide (c < 128)) = true) : Asc z := fun c hc => of_decide_eq_true (List.all_eq_true.mp h c hc)
theorem sum_le_of {ys : List Str} {m : Nat} (h : ∀ y ∈ ys, y.length ≤ m) : (ys.map (·.length)).sum ≤ m * ys.length := by
  induction ys with
  | nil => exact Nat.le_refl _
  | cons y r ih =>
    rw [List.map_cons, List.sum_cons, List.length_cons, Nat.mul_succ]
    have h1 := h y (List.mem_cons_self ..)
    have h2 := ih fun z hz => h z (List.mem_cons_of_mem _ hz)
    omega
/-! ### the show of a list of texts -/
theorem show_strs : ∀ ys : List Str, (∀ y ∈ ys, Asc y) → piled (PyData.shownAll (ys.map PyData.str)) ≤ 10 * (ys.map (·.length)).sum + 4 * ys.length
  | [], _ => Nat.zero_le _
  | y :: r, h => by
    have h1 := StrLaws.reprText_len y fun c hc => Nat.lt_trans (h y (List.mem_cons_self ..) c hc) (by decide)
    have h2 := show_strs r fun z hz => h z (List.mem_cons_of_mem _ hz)
    show piled (reprText y :: PyData.shownAll (r.map PyData.str)) ≤ _
    rw [piled_cons, List.map_cons, List.sum_cons, List.length_cons]
    omega
theorem shown_strs {ys : List Str} (h : ∀ y ∈ ys, Asc y) : (PyData.shown (.list (ys.map PyData.str))).length ≤ 10 * (ys.map (·.length)).sum + 4 * ys.length + 2 := by
  have h1 := show_strs ys h
  have h2 := listText_le (PyData.shownAll (ys.map PyData.str))
  show (listText (PyData.shownAll (ys.map PyData.str))).length ≤ _
  omega
theorem showable_strs : ∀ ys : List Str, PyData.showable (.list (ys.map PyData.str)) = true := by
  intro ys
  show PyData.showableAll (ys.map PyData.str) = true
  induction ys with
  | nil => rfl
  | cons y r ih =>
    show (true && PyData.showableAll (r.map PyData.str)) = true
    rw [ih]
    rfl
theorem depth_strs (ys : List Str) : PyData.depth (.list (ys.map PyData.str)) ≤ 40 := by
  have h2 : PyData.depthAll (ys.map PyData.str) = 0 := by
    induction ys with
    | nil => rfl
    | cons y r ih =>
      show max 0 (PyData.depthAll (r.map PyData.str)) = 0
      rw [ih]
      rfl
  simp only [PyData.depth, h2]
  decide
theorem dp_strs {K : PySem.W.Frag} {H : Hp} : ∀ ys : List Str, DpAll K H (ys.map V.str) (ys.map PyData.str)
  | [] => .nil
  | y :: r => .cons (.str y) (dp_strs r)
theorem shaped_strs (ys : List Str) (h : ∀ y ∈ ys, Asc y) : SeqAt.shaped (.list (ys.map PyData.str)) = true := by
  have h1 : PyData.canLayAll0 (ys.map PyData.str) = true := by
    induction ys with
    | nil => rfl
    | cons y r ih =>
      show (PyData.canLay0 (.str y) && PyData.canLayAll0 (r.map PyData.str)) = true
      rw [asc_ok (h y (List.mem_cons_self ..)), ih fun z hz => h z (List.mem_cons_of_mem _ hz)]
      rfl
  have h2 : PyData.depthAll (ys.map PyData.str) = 0 := by
    clear h1 h
    induction ys with
    | nil => rfl
    | cons y r ih =>
      show max 0 (PyData.depthAll (r.map PyData.str)) = 0
      rw [ih]
      rfl
  unfold SeqAt.shaped
  simp only [PyData.canLay0, PyData.depth, h1, h2, Bool.true_and]
  decide
theorem eqv_nil (ds : List PyData) : PyData.eqv (.list ds) (.list []) = decide (ds = []) := by
  cases ds with
  | nil => rfl
  | cons _ _ => rfl
end Pu

set_option Elab.async false
set_option linter.all false
set_option maxRecDepth 100000
set_option maxHeartbeats 4000000
/-! len(x), y in x, y not in x by own methods of x -/
namespace Pu
open PySem PySem.Spec PyProof.Rows L2
section
variable {X : Cx} {CX : CXT} {n : Nat} {f C : Addr} {fd : FuncData} {ps : List Str} {sp : Sp} {E : XK}
theorem own_run {A1 : Around} {pins : List (Addr × Obj)} {σ : L2.St} {H : Hp} {s : Shared} {vs : List V} {us : List Value} {Q : VK} (sb : Sub X n A1) (F : FnOk X.prog X.w X.K X.mg X.base CX n f fd ps sp) (b : Binds X.K fd ps []) (hx : Passes CX X E) (I : Inv X pins σ H s) (r : Vals vs us) (h : sp vs H Q E) :
    wpAny (model X.prog X.w) A1 (call (.ref f) us) (fun u s' => ∃ v H', Inv X pins σ H' s' ∧ RelV v u ∧ Q v H') X.xe s := by
  have e0 : Env0 X.prog X.w X.K X.mg X.base A1 X.stack s H := by
    obtain ⟨e1, e2, e3, e4, e5, e6, e7, e8⟩ := I.env0
    exact ⟨by rw [sb.fr]; exact e1, e2, e3, e4, e5, e6, e7, e8⟩
  have hb := b s us I.kIn (by rw [List.append_nil, ← r.length]; exact F.len _ _ _ _ h)
  rw [List.append_nil] at hb
  refine wpAny_call (codeAny_mono (F.run A1 X.stack s H ⟨us, []⟩ us vs Q E sb.room e0 hb r h) ?_)
  rintro (e | (_ | _ | _ | u)) s' q
  · exact hx pins σ H s e s' I q
  · exact (show False from q).elim
  · exact (show False from q).elim
  · exact (show False from q).elim
  · exact I.after q
/-- an own method of the class C -/
structure Own (X : Cx) (CX : CXT) (n : Nat) (C : Addr) (m : Str) (sp : Sp) : Prop where
  ex : ∃ (f : Addr) (fd : FuncData) (ps : List Str), FnOk X.prog X.w X.K X.mg X.base CX n f fd ps sp ∧ Binds X.K fd ps [] ∧ PySem.W.findIn X.K (.ref C) m = some (some (.ref f)) ∧ PySem.W.isFn X.K (.ref f) = true
theorem call_lenOwn (O : Own X CX n C "__len__" sp) (hr : Room (n + 1) X.A) (hx : Passes CX X E) :
    CallR X (.builtin "len") (fun xs H Q => ∃ a dx fs, xs = [.ref a] ∧ H a = some (.ins C dx fs) ∧ sp [.ref a] H (fun v H' => ∃ i : Nat, v = .int i ∧ i < 1000000 ∧ Q (.int i) H') E) := by
  intro pins s σ H xs us Q I r h
  obtain ⟨f, fd, ps, F, b, hl, hf⟩ := O.ex
  obtain ⟨a, dx, fs, rfl, ha, hq⟩ := h
  obtain ⟨u, rfl, ru⟩ := vals1 r
  obtain rfl : u = Value.ref a := ru
  obtain ⟨mA, J, _⟩ := ins_get I.hok ha
  obtain ⟨od, J, _⟩ := J.look
  refine Calls.call_function_entry kind_len plain_len entry_len (args_len1 _) ?_
  unfold Builtin.«len»
  refine wpAny_bind (m := oneArg "len" _) (wpAny_pure ?_)
  refine wpAny_bind (m := callSpecial? (.ref a) (PySem.Str.ofString "__len__")) (PySem.W.special_fn (name := PySem.Str.ofString "__len__") (args := []) I.kIn J hl (beq_iff_eq.mp hf) (wpAny_mono (own_run (Sub.in1 (⟨hr, rfl⟩ : Sub X (n + 1) X.A)) F b hx I r hq) ?_ fun _ _ z => z))
  rintro u2 s2 ⟨v, H2, I2, rv, i, rfl, hi, q⟩
  obtain ⟨t, rfl⟩ := (show ∃ t, u2 = Value.int i t from rv)
  refine wpAny_bind (wpAny_holding (wpAny_pure ?_))
  refine wpAny_bind (wpAny_letGo ?_)
  show wpAny _ _ (if ((i : Nat) : Int) < 0 then _ else _) _ _ _
  rw [if_neg (by omega)]
  show wpAny _ _ (if ((i : Nat) : Int) ≥ 2 ^ 63 then _ else _) _ _ _
  rw [if_neg (by omega)]
  exact wpAny_bind (wpAny_mkInt (wpAny_pure ⟨_, rfl, .int i, H2, I2.tok _, ⟨_, rfl⟩, q⟩))
/-- y in x, y not in x -/
def rOwnIn (C : Addr) (sp : Sp) (E : XK) (neg : Bool) : R2 := fun y x H Q => ∃ a dx fs, x = .ref a ∧ H a = some (.ins C dx fs) ∧ sp [.ref a, y] H (fun v H' => ∃ b : Bool, v = .bl b ∧ Q (.bl (if neg then !b else b)) H') E
theorem op_inOwn (O : Own X CX n C "__contains__" sp) (hr : Room n X.A) (hx : Passes CX X E) : OpR X (compareOp .In) (rOwnIn C sp E false) := by
  intro pins s σ H y x v u Q I ry rx h
  obtain ⟨f, fd, ps, F, b, hl, hf⟩ := O.ex
  obtain ⟨a, dx, fs, rfl, ha, hq⟩ := h
  obtain rfl : u = Value.ref a := rx
  obtain ⟨mA, J, _⟩ := ins_get I.hok ha
  obtain ⟨od, J, _⟩ := J.look
  obtain ⟨m, hF⟩ := I.fr
  refine PySem.W.in_K hF I.ok.mod.kin J hl hf (wpAny_mono (own_run (⟨hr, rfl⟩ : Sub X n X.A) F b hx I (show Vals [V.ref a, y] [Value.ref a, v] from .cons rfl (.cons ry .nil)) hq) ?_ fun _ _ z => z)
  rintro u2 s2 ⟨v2, H2, I2, rv, i, rfl, q⟩
  obtain rfl : u2 = Value.bool i := rv
  exact wpAny_pure ⟨.bl i, H2, I2, rfl, q⟩
theorem op_notInOwn (O : Own X CX n C "__contains__" sp) (hr : Room n X.A) (hx : Passes CX X E) : OpR X (compareOp .NotIn) (rOwnIn C sp E true) := by
  intro pins s σ H y x v u Q I ry rx h
  obtain ⟨f, fd, ps, F, b, hl, hf⟩ := O.ex
  obtain ⟨a, dx, fs, rfl, ha, hq⟩ := h
  obtain rfl : u = Value.ref a := rx
  obtain ⟨mA, J, _⟩ := ins_get I.hok ha
  obtain ⟨od, J, _⟩ := J.look
  obtain ⟨m, hF⟩ := I.fr
  refine PySem.W.notIn_K hF I.ok.mod.kin J hl hf (wpAny_mono (own_run (⟨hr, rfl⟩ : Sub X n X.A) F b hx I (show Vals [V.ref a, y] [Value.ref a, v] from .cons rfl (.cons ry .nil)) hq) ?_ fun _ _ z => z)
  rintro u2 s2 ⟨v2, H2, I2, rv, i, rfl, q⟩
  obtain rfl : u2 = Value.bool i := rv
  exact wpAny_pure ⟨.bl (!i), H2, I2, rfl, q⟩
end
end Pu

set_option Elab.async false
set_option linter.all false
set_option maxRecDepth 100000
set_option maxHeartbeats 4000000
/-! an own error whose base is ValueError, LookupError or KeyError (whose maker is LookupError's): how it is made -/
namespace PySem.F
theorem store_KE : StoreFacts "KeyError" [.type "KeyError", .type "LookupError", .type "Exception", .type "BaseException", .type "object"] "object.__setattr__" "object" where
  mro := by kernel_rfl
  slot := .of (owner := "object") (n := "__setattr__") (by rw [typeLookup_type, builtinLookup_eq_fast]; kernel_rfl) (by decide +kernel) (by decide +kernel) (by decide +kernel)
    (by first | exact .inl (by decide +kernel) | exact .inr (by decide +kernel)) (by rw [isSubtype_type]; kernel_rfl)
  entry := entry_object_sa
  kind := by decide +kernel
  split := by decide +kernel
  hasOwner := by decide +kernel
  args := fun a b c => by unfold argsOk; kernel_rfl
  passes := fun self => by kernel_rfl
end PySem.F
namespace Er
open PySem PySem.HandSPX
open PySem.W (kdv_tup Looks InitBack)
open PySem.Builtin PySem.Builtin.ObjectAttr
/-- what the maker asks of the classes above -/
structure Above (bm : List Value) (B : String) : Prop where
  base : bm.contains (.type B) = true
  attr : bm.contains (.type "AttributeError") = false
  name : bm.contains (.type "NameError") = false
section
variable {prog : Program} {w : World} {A : Around} {R : Result → Shared → Prop} {E : Value → Shared → Prop} {h : Heap} {g : Array GenState} {d : Drawn} {t : Nat} {os : OsState}
variable {nm q : Str} {C N : Addr} {bs bm bmB : List Value} {hdct : Bool} {sn : List Str} {sub : List Value} {ab : Bool} {col : Option Bool} {dd : Option Addr} {k0 k1 k2 k3 k5 : Option Value} {B newId initId : String}
theorem has (C : Addr) (x : String) (l : List Value) (b : Bool) (e : l.contains (.type x) = b) : (Value.ref C :: l).contains (.type x) = b := by
  rw [List.contains_cons, e]
  rfl
/-- the maker's own look at its first argument -/
theorem look_new (F : ExcBaseFacts B newId initId bmB) (U : Above bm B) {rest : List Value} {Q : Unit → Shared → Prop}
    (hC : h.get? C = some (excClassObj nm q C N bs bm hdct sn sub ab col dd k0 k1 k2 k3 k5 newId)) (hq : Q () ⟨h, g, d, t, os⟩) : wpAny (model prog w) A (checkBuiltinCall newId ⟨.ref C :: rest, []⟩) Q E ⟨h, g, d, t, os⟩ := by
  have hB := has C B bm true U.base
  have hs := F.noStar
  simp only [checkBuiltinCall, F.newKind, F.newSplit, F.newRow]
  repeat (first | refine wpAny_loadPart_at hC ?_ | (refine wpAny_isSubtype_exc hC ?_; rw [hB]) | refine wpAny_staticBase_exc hC ?_ | refine wpAny_madeBy_exc hC ?_ | simp only [bne_self_eq_false, Bool.false_eq_true, if_false] | wp_step)
  exact hq
/-- the maker: a tuple of the arguments, and the error -/
theorem run_new (F : ExcBaseFacts B newId initId bmB) (U : Above bm B) {rest : List Value} (hC : h.get? C = some (excClassObj nm q C N bs bm hdct sn sub ab col dd k0 k1 k2 k3 k5 newId)) (hz : rest.length ≤ sizeLine)
    (hq : R (.ok (.ret (.ref (h.objs.size + 1)))) ⟨(h.push (kdv_tup rest)).push (excO C h.objs.size), g, d, t, os⟩) :
    codeAny (model prog w) A (.builtin newId ⟨.ref C :: rest, []⟩) R ⟨h, g, d, t, os⟩ := by
  have hends := F.ends
  have hB := has C B bm true U.base
  have hA := has C "AttributeError" bm false U.attr
  have hN := has C "NameError" bm false U.name
  refine codeAny_builtinAt F.entry ?_
  unfold Builtin.«BaseException.__new__»
  refine wpAt_bind ?_
  show wpAt _ _ _ (stack >>= _) _ _ _
  refine wpAt_bind (wpAt_stack fun p below => wpAt_of_wpAny ?_)
  wp_walk
  refine wpAt_of_wpAny ?_
  rw [F.owner]
  repeat (first | with_reducible refine wpAny_madeHere_exc F.canon hC ?_ | with_reducible refine wpAny_loadPart_at hC ?_ | (with_reducible refine wpAny_isSubtype_exc hC ?_; first | rw [hB] | rw [hA] | rw [hN]) | wp_step)
  show R _ _
  rw [Heap.size_push]
  exact hq
/-- type.__call__ at such a class -/
theorem run_type (F : ExcBaseFacts B newId initId bmB) (U : Above bm B) {rest : List Value} {fI : Addr} {Q : PySem.Fin → Shared → Prop} (hC : h.get? C = some (excClassObj nm q C N bs bm hdct sn sub ab col dd k0 k1 k2 k3 k5 newId))
    (hi : Looks (model prog w) h (typeLookup (.ref C) "__init__") (some (.ref fI))) (hb : ∀ self, Looks (model prog w) h (bindSpecial (.ref fI) self) (.ref fI, [self])) (hz : rest.length ≤ sizeLine)
    (hq : codeAny (model prog w) A (.call (.ref fI) ⟨.ref (h.objs.size + 1) :: rest, []⟩) (fun r s' => match r with | .ok (.ret v) => v = .none ∧ Q (.done (.ret (.ref (h.objs.size + 1)))) s' | .ok _ => False | .error e => E e s')
      ⟨(h.push (kdv_tup rest)).push (excO C h.objs.size), g, d, t, os⟩) :
    wpAny (model prog w) A (Builtin.«type.__call__» ⟨.ref C :: rest, []⟩) Q E ⟨h, g, d, t, os⟩ := by
  have grows : ∀ b o, h.get? b = some o → ((h.push (kdv_tup rest)).push (excO C h.objs.size)).get? b = some o := fun b o e => Heap.get?_push_of_some _ (Heap.get?_push_of_some _ e)
  have hC₁ := grows _ _ hC
  have hnew : ((h.push (kdv_tup rest)).push (excO C h.objs.size)).get? (h.objs.size + 1) = some (excO C h.objs.size) := by heap_get
  have hself : (Value.ref C :: bm).contains (.ref C) = true := by simp
  repeat (first | with_reducible refine wpAny_loadPart_at hC ?_ | with_reducible refine wpAny_madeBy_exc hC ?_ | wp_step)
  refine codeAny_call_builtin_code (Code.quiet_builtin _ F.quiet) (look_new F U hC ?_)
  refine run_new F U hC hz ?_
  show wpAny _ _ _ _ _ _
  unfold isInstance
  repeat (first | with_reducible refine wpAny_loadPart_at hnew ?_ | (with_reducible refine wpAny_isSubtype_exc hC₁ ?_; rw [hself]) | wp_step)
  show wpAny _ _ (typeLookup (.ref C) _) _ _ _
  refine (hi.keeps grows).at ?_
  refine wpAny_holding (wpAny_bind (((hb (.ref (h.objs.size + 1))).keeps grows).at ?_))
  refine wpAny_bind (wpAny_call (codeAny_mono hq fun r s' z => ?_))
  rcases r with e | (_ | _ | _ | v)
  · exact z
  · exact z.elim
  · exact z.elim
  · exact z.elim
  · obtain ⟨rfl, z⟩ := z
    first
      | exact wpAny_pure (wpAny_pure z)
      | (wp_walk; exact z)
/-- C(..): the maker, then the class's own __init__ -/
theorem call_cls (F : ExcBaseFacts B newId initId bmB) (U : Above bm B) {rest : List Value} {fI : Addr} (hC : h.get? C = some (excClassObj nm q C N bs bm hdct sn sub ab col dd k0 k1 k2 k3 k5 newId))
    (hi : Looks (model prog w) h (typeLookup (.ref C) "__init__") (some (.ref fI))) (hb : ∀ self, Looks (model prog w) h (bindSpecial (.ref fI) self) (.ref fI, [self])) (hz : rest.length ≤ sizeLine)
    (hq : codeAny (model prog w) (A.under (.builtin "type.__call__" ⟨.ref C :: rest, []⟩)) (.call (.ref fI) ⟨.ref (h.objs.size + 1) :: rest, []⟩) (InitBack (h.objs.size + 1) R)
      ⟨(h.push (kdv_tup rest)).push (excO C h.objs.size), g, d, t, os⟩) :
    codeAny (model prog w) A (.call (.ref C) ⟨rest, []⟩) R ⟨h, g, d, t, os⟩ := by
  have f1 := tc_lookup
  have f2 := tc_bind (.ref C)
  have hTy : (⟨h, g, d, t, os⟩ : Shared).TypeIs (.ref C) "type" := ⟨_, hC, rfl⟩
  refine codeAny_of_tree ?_
  show wpAny _ _ (callAny (.ref C) _) _ _ _
  repeat (any_goals (first | assumption | with_reducible refine wpAny_loadPart_at hC ?_ | wp_step))
  refine ⟨rfl, ?_⟩
  refine codeAny_call_builtin_at (Code.quiet_builtin _ (by decide +kernel)) entry_typeCall (wpAny_check_type_call_sub hC (run_type F U hC hi hb hz ?_))
  refine codeAny_mono hq fun r s' z => ?_
  rcases r with e | (_ | _ | _ | v)
  · exact z
  · exact z
  · exact z
  · exact z
  · exact z
end
end Er

set_option Elab.async false
set_option linter.all false
set_option maxRecDepth 100000
set_option maxHeartbeats 4000000
/-! an own error of one field, kept as it was handed in: made, raised, its field read -/
namespace PySem
namespace Er
open PySem.W PySem.Calls PyProof.Rows PySem.HandSPX _root_.Er
/-! ### the text of __init__, the field f -/
def iA (f : Str) (p1 p2 : Pos) : Arguments := { posonlyargs := [], args := [{ arg := "self", annotation := none, pos := p1 }, { arg := f, annotation := none, pos := p2 }], vararg := none, kwonlyargs := [], kw_defaults := [], kwarg := none, defaults := [] }
def iB (f : Str) (q1 q2 q3 q4 : Pos) : List Stmt := [.Assign [.Attribute (.Name "self" q1) f q2] (.Name f q3) q4]
def iS (f : Str) : Scope := { kind := .function, names := [(PySem.Str.ofString "self", .local), (f, .local)], isGenerator := false, isCoroutine := false, more := [] }
def flds : List Str := ["value", "name", "members", "bound", "index", "total", "event"]
abbrev vT : List Value := [.type "ValueError", .type "Exception", .type "BaseException", .type "object"]
abbrev lT : List Value := [.type "LookupError", .type "Exception", .type "BaseException", .type "object"]
abbrev kT : List Value := [.type "KeyError", .type "LookupError", .type "Exception", .type "BaseException", .type "object"]
/-- what the written part says of the class at C and of its __init__ at fI -/
structure ErrTxt (K : Frag) (mg : Str → Option Value) (x f : Str) (C fI : Addr) : Prop where
  ff : f ∈ flds
  gC : mg x = some (.ref C)
  cls : ∃ nm q N bs bm sn sub ab col dd k0 k1 k2 k3 k5, (K.lookup C = some (excClassObj nm q C N bs bm true sn sub ab col dd k0 k1 k2 k3 k5 "ValueError.__new__") ∧ Above bm "ValueError") ∨ (K.lookup C = some (excClassObj nm q C N bs bm true sn sub ab col dd k0 k1 k2 k3 k5 "LookupError.__new__") ∧ Above bm "LookupError")
  over : excOver K C vT = true ∨ excOver K C lT = true ∨ excOver K C kT = true
  sa : findIn K (.ref C) "__setattr__" = some (some (.builtin "object.__setattr__"))
  ga : findIn K (.ref C) "__getattribute__" = some (some (.builtin "BaseException.__getattribute__"))
  gg : findIn K (.ref C) "__getattr__" = some none
  noN : findIn K (.ref C) f = some none
  iC : findIn K (.ref C) "__init__" = some (some (.ref fI))
  tC : typeIn K (.ref fI) = some (.type "function")
  kC : keepIn K (.ref C) = true
  exC : subIn K (.ref C) (.type "BaseException") = some true
  tyC : typeIn K (.ref C) = some (.type "type")
  hdC : hasDictIn K C = true
  isC : isClsIn K C = true
  fn : ∃ (q : Str) (oc : Value) (od : Option Addr) (doc pm : Value) (an : Option Addr) (cdv ct : Value) (osl : Array (Option Value)) (p1 p2 q1 q2 q3 q4 : Pos),
    K.lookup fI = some ⟨oc, od, .func (fnOf "__init__" q (iA f p1 p2) (iB f q1 q2 q3 q4) (iS f) .none .none doc pm an cdv ct), osl⟩ ∧ codeIn K cdv q = true
theorem ErrTxt.clsIn {K : Frag} {mg : Str → Option Value} {x f : Str} {C fI : Addr} (T : ErrTxt K mg x f C fI) : ∃ cd, W.clsIn K C = some cd ∧ cd.hasDict = true := by
  obtain ⟨nm, q, N, bs, bm, sn, sub, ab, col, dd, k0, k1, k2, k3, k5, h | h⟩ := T.cls
  · refine ⟨{ name := nm, bases := bs, mro := .ref C :: bm, ns := N, qualname := q, hasDict := true, slotNames := sn, subclasses := sub, abstract := ab, collection := col, hasDel := false }, ?_, rfl⟩
    unfold W.clsIn
    rw [h.1]
  · refine ⟨{ name := nm, bases := bs, mro := .ref C :: bm, ns := N, qualname := q, hasDict := true, slotNames := sn, subclasses := sub, abstract := ab, collection := col, hasDel := false }, ?_, rfl⟩
    unfold W.clsIn
    rw [h.1]
theorem loadSlot {M : Model} {s : Shared} {name : Str} {scope : Scope} {L a : Addr} {cd : Value} {m : Str → Option Value} {x : Str} {pos : Pos} {v : Value} {Q : Value → Shared → Prop} {A : Around} {E : Value → Shared → Prop} (hn : s.heap.Ns L m) (hv : m x = some v) (h : Q v s)
    (hk : scope.kind = .function := by rfl) (hl : (envOfC name scope L a cd).kindOf x = some .local := by rfl) (hd : (x == ("__debug__" : Str)) = false := by decide) :
    wpAny M A (eval (.Name x pos) (envOfC name scope L a cd)) Q E s := wpAny_Name (wpAny_loadName_local hk hl hn hv h) hd
/-- what __init__ leaves of a fresh error at x -/
structure Left (h h' : Heap) (x C dx t1 : Addr) (f : Str) (v : Value) : Prop where
  keep : ∀ b o, b ≠ x → h.get? b = some o → h'.get? b = some o
  obj : h'.get? x = some { cls := .ref C, dict := some dx, data := .fields #[.ref t1, .none, .none, .none, .bool false, .none] }
  big : h.objs.size ≤ dx
  ne : dx ≠ x
  ns : h'.Ns1 dx (fun y => if y = f then some v else none)
/-- a made error -/
structure Made (h h' : Heap) (e C d : Addr) (f : Str) (v : Value) : Prop where
  keep : ∀ b o, h.get? b = some o → h'.get? b = some o
  new : h.objs.size ≤ e
  obj : ∃ oe vs, h'.get? e = some oe ∧ oe.cls = .ref C ∧ oe.dict = some d ∧ oe.data = .fields vs ∧ vs[1]? = some .none
  big : h.objs.size ≤ d
  ne : d ≠ e
  ns : h'.Ns1 d (fun y => if y = f then some v else none)
section
open Builtin Builtin.ObjectAttr
variable {prog : Program} {w : World} {A : Around} {E : Value → Shared → Prop} {R : Result → Shared → Prop} {s : Shared} {K : Frag} {mg : Str → Option Value} {x0 f : Str} {C fI : Addr}
/-- the store of the field -/
theorem put_field {hp : Heap} {g : Array GenState} {d : Drawn} {t : Nat} {os : OsState} (T : ErrTxt K mg x0 f C fI) {x : Addr} {fv : Array Value} {tk : Tok} {v : Value} (X : K.In hp) (hx : hp.get? x = some { cls := .ref C, data := .fields fv })
    (hq : ∀ h' tk' dx, (∀ b o, b ≠ x → hp.get? b = some o → h'.get? b = some o) → hp.objs.size ≤ dx → dx ≠ x → h'.get? x = some { cls := .ref C, dict := some dx, data := .fields fv } →
      h'.Ns1 dx (fun y => if y = f then some v else none) → R (.ok (.ret .none)) ⟨h', g, d, tk', os⟩) :
    codeAny (model prog w) A (.call (.builtin "object.__setattr__") ⟨[.ref x, .str f tk, v], []⟩) R ⟨hp, g, d, t, os⟩ := by
  have I : W.InstAt hp x { cls := .ref C, data := .fields fv } C none := ⟨hx, rfl, rfl, trivial⟩
  have ht : takerIn K C f = some none := by
    unfold takerIn
    rw [T.noN]
    rfl
  obtain ⟨cd, hcd, hh⟩ := T.clsIn
  have hcls : W.Looks (model prog w) hp (classData C) cd := W.looks_clsIn X hcd
  have hxs : x ≠ hp.objs.size := Nat.ne_of_lt (Heap.lt_size hx)
  have key : ∀ b, wpAny (model prog w) A.in1 (storeInOwnDict (.ref x) (.ref C) (.str f tk) f v b)
      (fun fin s' => match fin with | .done f => R (.ok f) s' | .again c' => c'.quiet = true ∧ codeAny (model prog w) A c' R s') (fun e s' => R (.error e) s') ⟨hp, g, d, t, os⟩ := by
    intro b
    obtain ⟨nm, bs, mro, ns, qn, hd, sn, sb, ab, col, del⟩ := cd
    dsimp only at hh
    subst hh
    unfold storeInOwnDict ownDictForStores
    repeat (first | with_reducible refine HandSPX.store_in_new ?_ ?_ | with_reducible refine wpAny_loadPart_at hx ?_ | with_reducible refine hcls.at ?_ | wp_step)
    · exact ⟨_, #[], _, (Heap.get?_update_ne _ _ _ _ hxs.symm).trans (Heap.get?_push_at rfl rfl), rfl, fun e he => absurd he (by simp), fun _ => rfl⟩
    · intro h' tk' hn' hs
      have hx₁ : (hp.push { cls := .type "dict", data := .dict #[] }).get? x = some { cls := .ref C, data := .fields fv } := Heap.get?_push_of_some _ hx
      refine hq h' tk' hp.objs.size (fun b o hb ho => ?_) (Nat.le_refl _) hxs.symm ?_ hn'
      · exact (hs.2 b (Nat.ne_of_lt (Heap.lt_size ho))).trans ((Heap.get?_update_ne _ _ _ _ hb).trans (Heap.get?_push_of_some _ ho))
      · exact (hs.2 x hxs).trans (Heap.get?_update_self _ hx₁ rfl)
  rcases T.over with o | o | o
  · exact osa_openX F.store_ValueError X I o ht key
  · exact osa_openX F.store_LookupError X I o ht key
  · exact osa_openX F.store_KE X I o ht key
end
section
variable {prog : Program} {w : World} {A : Around} {E : Value → Shared → Prop} {R : Result → Shared → Prop} {s : Shared} {K : Frag} {mg : Str → Option Value} {x0 f : Str} {C fI : Addr}
theorem run_init (T : ErrTxt K mg x0 f C fI) {x t0 : Addr} {v : Value} (X : K.In s.heap) (hlim : s.heap.NoLimit) (hx : s.heap.get? x = some (excO C t0)) (hroom : A.depth < recursionLimit)
    (hq : ∀ h' tk dx, Left s.heap h' x C dx t0 f v → R (.ok (.ret .none)) { s with heap := h', toks := tk }) :
    codeAny (model prog w) A (.call (.ref fI) ⟨[.ref x, v], []⟩) R s := by
  obtain ⟨q, oc, od, doc, pm, an, cdv, ct, osl, p1, p2, q1, q2, q3, q4, ho, hcd⟩ := T.fn
  have hf := T.ff
  simp only [flds, List.mem_cons, List.not_mem_nil, or_false] at hf
  rcases hf with rfl | rfl | rfl | rfl | rfl | rfl | rfl
  all_goals
    refine Att.call_fn (binds := [("self", .ref x), (_, v)]) X hlim ho hcd hroom (BindsTo.of_eq (by first | rfl | with_unfolding_all rfl)) (by first | rfl | decide | with_unfolding_all rfl) (fun s₁ IC => ?_) rfl rfl rfl
    obtain ⟨h₁, tk₁, rfl⟩ := IC.toInCall.same
    have k : ∀ b o, s.heap.get? b = some o → h₁.get? b = some o := IC.toInCall.keep
    have hn := IC.toInCall.ns
    have X₁ : K.In h₁ := X.keeps k
    have hx₁ := k _ _ hx
    show wpAny _ _ (execs _ _) _ _ _
    refine wpAny_execs_cons (plainObj_wpAny_Assign_Attribute ?_)
    refine loadSlot (v := v) hn (by first | rfl | with_unfolding_all rfl | kernel_rfl) (loadSlot (v := .ref x) hn (by first | rfl | with_unfolding_all rfl | kernel_rfl) ?_)
    refine set_plain X₁ (ox := excO C t0) (od := none) ⟨hx₁, rfl, rfl, trivial⟩ T.sa ?_
    refine put_field T X₁ hx₁ (fun h₃ tk₃ dx k₃ dn dne hx₃ hn₃ => ?_)
    show wpAny _ _ (execs _ _) _ _ _
    have z : s.heap.objs.size < h₁.objs.size := hn.lt
    exact wpAny_execs_nil (hq h₃ tk₃ dx ⟨fun b o hb e => k₃ b o hb (k b o e), hx₃, Nat.le_of_lt (Nat.lt_of_lt_of_le z dn), dne, hn₃⟩)
theorem run_made (T : ErrTxt K mg x0 f C fI) {v : Value} (X : K.In s.heap) (hlim : s.heap.NoLimit) (hroom : A.depth + 1 < recursionLimit)
    (hq : ∀ h' tk e d, Made s.heap h' e C d f v → R (.ok (.ret (.ref e))) { s with heap := h', toks := tk }) :
    codeAny (model prog w) A (.call (.ref C) ⟨[v], []⟩) R s := by
  have hc := T.cls
  obtain ⟨hp, g, dr, tk, os⟩ := s
  have k : ∀ b o, hp.get? b = some o → ((hp.push (kdv_tup [v])).push (excO C hp.objs.size)).get? b = some o := fun b o e => Heap.get?_push_of_some _ (Heap.get?_push_of_some _ e)
  have hget : ((hp.push (kdv_tup [v])).push (excO C hp.objs.size)).get? (hp.objs.size + 1) = some (excO C hp.objs.size) := by heap_get
  have hz : [v].length ≤ sizeLine := by
    show 1 ≤ sizeLine
    decide
  have body : codeAny (model prog w) (A.under (.builtin "type.__call__" ⟨.ref C :: [v], []⟩)) (.call (.ref fI) ⟨.ref (hp.objs.size + 1) :: [v], []⟩) (InitBack (hp.objs.size + 1) R) ⟨(hp.push (kdv_tup [v])).push (excO C hp.objs.size), g, dr, tk, os⟩ := by
    refine run_init (s := ⟨(hp.push (kdv_tup [v])).push (excO C hp.objs.size), g, dr, tk, os⟩) T (X.keeps k) (hlim.keeps k) hget ?_ ?_
    · show A.depth + 1 < recursionLimit
      exact hroom
    · rintro h' tk' dx ⟨k', hx, dn, dne, hns⟩
      have old : ∀ b o, hp.get? b = some o → h'.get? b = some o := fun b o e => k' b o (Nat.ne_of_lt (Nat.lt_succ_of_lt (Heap.lt_size e))) (k b o e)
      have z : hp.objs.size + 1 + 1 ≤ dx := by
        first
          | exact dn
          | (have q := dn; rw [Heap.size_push, Heap.size_push] at q; exact q)
      exact ⟨rfl, hq h' tk' (hp.objs.size + 1) dx ⟨old, Nat.le_succ _, ⟨_, _, hx, rfl, rfl, rfl, rfl⟩, Nat.le_trans (Nat.le_trans (Nat.le_succ _) (Nat.le_succ _)) z, dne, hns⟩⟩
  obtain ⟨nm, q, N, bs, bm, sn, sub, ab, col, dd, k0, k1, k2, k3, k5, ⟨hC, U⟩ | ⟨hC, U⟩⟩ := hc
  · exact call_cls F.excBase_ValueError U (X _ _ hC) (looks_findIn X T.iC) (fun self => bind_fn X self T.tC) hz body
  · exact call_cls F.excBase_LookupError U (X _ _ hC) (looks_findIn X T.iC) (fun self => bind_fn X self T.tC) hz body
end
end Er
end PySem

set_option Elab.async false
set_option linter.all false
set_option maxRecDepth 100000
set_option maxHeartbeats 4000000
/-! an own error of one field, over the layer -/
namespace Pu
open PySem PySem.Spec PyProof.Rows L2
open PySem.Er (ErrTxt)
theorem relO_one {v : V} {u : Value} (r : RelV v u) (f g : Str) : RelO (List.lookup g [(f, v)]) (if g = f then some u else none) := by
  by_cases h : g = f
  · subst h
    rw [if_pos rfl, show List.lookup g [(g, v)] = some v by simp [List.lookup]]
    exact r
  · have e : (g == f) = false := by simpa using h
    rw [if_neg h, show List.lookup g [(f, v)] = none by simp [List.lookup, e]]
    trivial
section
variable {X : Cx} {x f : Str} {C fI : Addr}
/-- x(e) -/
def tMkE (C : Addr) (f : Str) (ta : TA) : L2.St → Hp → XK → Prop := fun σ H Q => ta σ H fun vs H1 => ∃ v, vs = [v] ∧ ∀ d, H1 d = none → Q (.ref C) (some d) (upd H1 d (.xd [(f, v)]))
theorem pmk_err {a : Expr} {ta : TA} {p pos : Pos} {k : Nat} (T : ErrTxt X.K X.mg x f C fI) (hr : Room k X.A) (ha : PA X [a] ta) (hg : Gl X x) (hdb : (x == ("__debug__" : Str)) = false := by decide)
    (he : starEach (a :: []) X.env = (false, eval a X.env) :: starEach [] X.env := by rfl) (hpl : (backTo pos (starEach [] X.env)).any (·.1) = false := by rfl) :
    PMk X (.Call (.Name x p) [a] [] pos) (tMkE C f ta) := by
  intro pins s σ H Q I h
  refine wpAny_Call_Name_kw (ld_glob I hg T.gC ?_ hdb)
  refine PySem.W.callWith_K (h₀ := X.base) I.ok.mod.kin T.kC (thn (ha.run pos pins s σ H _ I h) fun us s1 hh => ?_) he hpl
  obtain ⟨vs, H1, I1, r1, v, rfl, q1⟩ := hh
  refine ⟨I1.kIn, ?_⟩
  obtain ⟨u, rfl, ru⟩ := vals1 r1
  show wpAny _ _ (call (.ref C) [u]) _ _ _
  have hlim := I1.nolimit
  obtain ⟨hp, g, dr, tk, os⟩ := s1
  refine wpAny_call (PySem.Er.run_made T I1.kIn hlim (by have := hr.dp; omega) fun h' tk' e d M => ?_)
  show MkP X pins σ Q (.ref e) ⟨h', g, dr, tk', os⟩
  obtain ⟨oe, fv, hoe, hc, hd, hdat, h1⟩ := M.obj
  obtain ⟨G', g1, g2⟩ := restrict h' fun b => decide (b ≠ e)
  have gk : ∀ b, b ≠ e → G'.get? b = h'.get? b := fun b hb => g1 b (decide_eq_true hb)
  have ge : G'.get? e = none := g2 e (by simp)
  have old : ∀ b o, hp.get? b = some o → G'.get? b = some o := fun b o q => (gk b (Nat.ne_of_lt (Nat.lt_of_lt_of_le (Heap.lt_size q) M.new))).trans (M.keep b o q)
  have ob : ObjOk X.prog X.w (upd H1 d (.xd [(f, v)])) G' d (.xd [(f, v)]) := ⟨_, M.ns.at (fun o q => (gk d M.ne).trans q), fun y => relO_one ru f y⟩
  have J : Inv X pins σ (upd H1 d (.xd [(f, v)])) ⟨G', g, dr, tk', os⟩ := I1.laid (t' := tk') old M.big ob
  refine ⟨e, oe, fv, ⟨G', g, dr, tk', os⟩, _, .ref C, some d, rfl, J, fun b o q => ?_, ge, hoe, ⟨hc, hd⟩, hdat, h1, ?_, rfl, I1.bare, raises_own T.exC T.tyC, q1 d (I1.hok.fresh M.big)⟩
  · by_cases hb : b = e
    · have q' : G'.get? b = some o := q
      rw [hb, ge] at q'
      cases q'
    · exact (gk b hb).symm.trans q
  · rw [upd_ne (Ne.symm M.ne)]
    exact I1.hok.fresh M.new
/-- raise x(e) -/
def tRaiseE (C : Addr) (f : Str) (W : WX) (ta : TA) : TS := fun _ σ H => tMkE C f ta σ H fun cls d H' => W cls d σ H'
theorem ps_raiseE {a : Expr} {ta : TA} {W : WX} {p pos pos2 : Pos} {k : Nat} (hc : X.calm = true) (T : ErrTxt X.K X.mg x f C fI) (hr : Room k X.A) (tk : Takes X W) (ha : PA X [a] ta) (hg : Gl X x) (hdb : (x == ("__debug__" : Str)) = false := by decide)
    (he : starEach (a :: []) X.env = (false, eval a X.env) :: starEach [] X.env := by rfl) (hpl : (backTo pos (starEach [] X.env)).any (·.1) = false := by rfl) :
    PS X (.Raise (some (.Call (.Name x p) [a] [] pos)) none pos2) (tRaiseE C f W ta) := ps_raise hc tk (pmk_err T hr ha hg hdb he hpl)
/-- e.f, e the error that the suite holds at a, of the class cls with its dict d -/
def tByE (C : Addr) (f : Str) (a : Addr) (cls : Value) (d : Option Addr) (te : TE) : TE := fun σ H Q => te σ H fun y H1 => y = .ref a ∧ cls = .ref C ∧ ∃ (dd : Addr) (v : V), d = some dd ∧ H1 dd = some (.xd [(f, v)]) ∧ Q v H1
theorem pe_byE {a : Addr} {oe : Obj} {cls : Value} {d : Option Addr} {pn : List (Addr × Obj)} {e : Expr} {te : TE} {pos : Pos} (T : ErrTxt X.K X.mg x f C fI) (hz : Zc cls d oe) (hf : ∃ vs, oe.data = .fields vs) (he : PE (X.suite a ((a, oe) :: pn)) e te)
    (hb : attributeBase e f X.env (eval e X.env) = eval e X.env := by rfl) : PE (X.suite a ((a, oe) :: pn)) (.Attribute e f pos) (tByE C f a cls d te) := by
  constructor
  intro pins s σ H Q I h
  refine attr_of hb (thn (he.run pins s σ H _ I h) fun u s1 hh => ?_)
  obtain ⟨y, H1, I1, ry, rfl, rfl, dd, v, rfl, ea, q⟩ := hh
  obtain rfl : u = Value.ref a := ry
  obtain ⟨ha, _⟩ := I1.pin (a, oe) (List.mem_append_left _ List.mem_cons_self)
  obtain ⟨vs, hd⟩ := hf
  have hx : ObjOk X.prog X.w H1 s1.heap dd (.xd [(f, v)]) := I1.hok dd _ ea
  obtain ⟨mA, hns, hr⟩ := hx
  obtain ⟨od, ho, hl⟩ := lookIn_ns hns
  have l : List.lookup f [(f, v)] = some v := by simp [List.lookup]
  obtain ⟨u, hu, ru⟩ := RelO.some_of (v := v) (o := mA f) (by rw [← l]; exact hr f)
  have J : PySem.W.InstAt s1.heap a oe C (some od) := ⟨ha, hz.1, by unfold PySem.W.notCls; rw [hd] <;> rfl, by rw [hz.2]; exact ho⟩
  exact HandSPX.exc_get I1.kIn J T.ga T.gg T.exC (PySem.W.findObj_own T.hdC T.noN rfl (by rw [hl, hu])) (handed_of ru) ⟨v, H1, I1.tok _, ru, q⟩
end
end Pu

set_option Elab.async false
set_option linter.all false
set_option maxRecDepth 100000
set_option maxHeartbeats 4000000
/-! {**d, k: v}: a display that takes a dict in -/
namespace PySem
section
variable {prog : Program} {w : World} {K : Type} [DecidableEq K] {knd : KeyKind prog w K} {A : Around} {E : Value → Shared → Prop} {s : Shared}
/-- one entry put: its hash is known -/
theorem wpAny_put {d : Addr} {kvs : List (K × Value)} {k : K} {key v : Value} {Q : Unit → Shared → Prop} (hkey : knd.is k key = true) (hm : s.heap.DictOf knd d kvs)
    (hQ : ∀ h', h'.DictOf knd d (stored kvs k v) → Heap.SameBut d s.heap h' → Q () { s with heap := h' }) (hsz : kvs.length ≤ sizeLine) :
    wpAny (model prog w) A (dictPut d (knd.hash k) key v) Q E s := by
  obtain ⟨o, es, ep, ho, hc, hd, hk, hp, hn⟩ := hm
  have hes : es.size ≤ sizeLine := by
    have e1 := hp.length
    have e2 : es.toList.length = es.size := by simp
    omega
  unfold dictPut
  refine wpAny_bind (wpAny_dictFind_of hkey ho hd hk ?_)
  have hidx : (es.findIdx? fun e => knd.is k e.key) = kvs.findIdx? fun kv => decide (kv.1 = k) := by
    rw [← hp.findIdx k]
    obtain ⟨l⟩ := es
    simp
  cases hi : es.findIdx? fun e => knd.is k e.key with
  | some i =>
    refine wpAny_updateDict ho hd (hQ _ ⟨_, _, ep, Heap.get?_update_self _ ho (Obj.isFreed_of_dict (Obj.data_mapDict hd _)), hc.mapDict _, Obj.data_mapDict hd _, hk.modify _ _, ?_, ?_⟩ (Heap.SameBut.update ..))
    · rw [stored, if_pos (any_of_findIdx_some (hidx ▸ hi))]
      have hl : (es.toList.findIdx? fun e => knd.is k e.key) = some i := by
        rw [← hi]
        obtain ⟨l⟩ := es
        simp
      have := hp.modify hn hl v
      obtain ⟨l⟩ := es
      simpa using this
    · rw [stored, if_pos (any_of_findIdx_some (hidx ▸ hi)), keys_map_store]
      exact hn
  | none =>
    have hnot : k ∉ kvs.map (·.1) := not_mem_of_findIdx_none (hidx ▸ hi)
    have hany : ¬ (kvs.any fun kv => decide (kv.1 = k)) = true := by
      rw [List.any_eq_true]
      rintro ⟨kv, hkv, he⟩
      exact hnot (List.mem_map.mpr ⟨kv, hkv, of_decide_eq_true he⟩)
    refine wpAny_updateDictKeys (hz := hes) ho hd (hQ _ ⟨_, _, ep + 1, Heap.get?_update_self _ ho (Obj.isFreed_of_dict (Obj.data_mapDictKeys hd _)), hc.mapDictKeys _, Obj.data_mapDictKeys hd _, hk.push hkey _, ?_, ?_⟩ (Heap.SameBut.update ..))
    · rw [stored, if_neg hany]
      have := hp.append hkey (knd.hash k) v
      obtain ⟨l⟩ := es
      simpa using this
    · rw [stored, if_neg hany, List.map_append, List.nodup_append]
      refine ⟨hn, by simp, ?_⟩
      intro a ha b hb
      simp only [List.map_cons, List.map_nil, List.mem_singleton] at hb
      subst hb
      exact fun e => hnot (e ▸ ha)
theorem sub_dd : isSubtype (.type "dict") (.type "dict") = pure true := by rw [isSubtype_type]; kernel_rfl
/-- a dict's entries put into another dict, one by one -/
theorem wpAny_merge {a d : Addr} {ds kvs : List (K × Value)} {Q : Unit → Shared → Prop} (hne : a ≠ d) (hsys : (a == sysModules) = false) (hd : s.heap.DictOf knd d ds) (ha : s.heap.DictOf knd a kvs)
    (hQ : ∀ h', h'.DictOf knd d (merged ds kvs) → Heap.SameBut d s.heap h' → Q () { s with heap := h' }) (hsz : ds.length + kvs.length ≤ sizeLine) :
    wpAny (model prog w) A (mergeMapping d (.ref a) false) Q E s := by
  obtain ⟨od, esd, epd, hod, hcd, hdd, hkd, hpd, hnd⟩ := id hd
  obtain ⟨oa, esa, epa, hoa, hca, hda, hka, hpa, hna⟩ := id ha
  have hT : s.TypeIs (.ref a) "dict" := ⟨oa, hoa, hca.1⟩
  have hlen : kvs.length = esa.size := by
    rw [← hpa.length]
    simp
  have noRef : ∀ e ∈ esa, ∀ x, e.key ≠ .ref x := fun e he x z => by
    obtain ⟨k, hk, _⟩ := hka e he
    have := knd.byValue k _ hk
    rw [z] at this
    cases this
  unfold mergeMapping
  refine wpAny_bind (wpAny_isInstance hT sub_dd ?_)
  rw [if_pos rfl]
  refine wpAny_bind (wpAny_specialOf hT F.slot_dict_iter.lookup (wpAny_bind (wpAny_pure ?_)))
  rw [show ((some (Value.builtin "dict.__iter__") : Option Value) == some (.builtin "dict.__iter__")) = true by decide +kernel]
  dsimp only
  rw [if_neg (by rw [hsys]; exact Bool.false_ne_true)]
  refine wpAny_bind (wpAny_dictEntries hod hdd ?_)
  have first : esd.isEmpty = true ∨ esd.isEmpty = false := by
    cases esd.isEmpty
    · exact .inr rfl
    · exact .inl rfl
  have go : ∀ (f : Nat → PUnit → Sem (ForInStep PUnit)) (R : PUnit → Shared → Prop),
      (∀ (i : Nat) (h' : Heap) (e : DictEntry) (T : ForInStep PUnit → Shared → Prop), i < esa.size → h'.get? a = some oa → esa[i]? = some e →
        wpAny (model prog w) A (dictPut d e.hash e.key e.val) (fun _ s' => ∃ h'', s' = { s with heap := h'' } ∧ h''.get? a = some oa ∧ T (.yield PUnit.unit) s') E { s with heap := h' } → wpAny (model prog w) A (f i PUnit.unit) T E { s with heap := h' }) →
      (∀ h', h'.DictOf knd d (merged ds kvs) → Heap.SameBut d s.heap h' → R PUnit.unit { s with heap := h' }) →
      wpAny (model prog w) A (forIn (List.range esa.size) PUnit.unit f) R E s := by
    intro f R hf hR
    rw [List.range_eq_range']
    refine wpAny_forIn_list _
      (fun rest _ s' => ∃ h' i, s' = { s with heap := h' } ∧ rest = List.range' i (esa.size - i) ∧ i ≤ esa.size ∧ h'.DictOf knd d (merged ds (kvs.take i)) ∧ h'.get? a = some oa ∧ Heap.SameBut d s.heap h')
      _ ?_ ?_ _ _ ⟨s.heap, 0, rfl, by simp, Nat.zero_le _, by simpa [merged] using hd, hoa, Heap.SameBut.refl _ _⟩
    · rintro x rest b s' ⟨h', i, rfl, hr, hi, hd', hoa', hs'⟩
      have hlt : i < esa.size := by
        rcases Nat.lt_or_ge i esa.size with h | h
        · exact h
        · rw [Nat.sub_eq_zero_of_le h] at hr
          simp at hr
      obtain ⟨rfl, hrest⟩ : x = i ∧ rest = List.range' (i + 1) (esa.size - (i + 1)) := by
        have e : esa.size - i = (esa.size - (i + 1)) + 1 := by omega
        rw [e, List.range'_succ] at hr
        injection hr with h1 h2
        exact ⟨h1, h2⟩
      obtain ⟨kv, hkv⟩ : ∃ kv, kvs[x]? = some kv := ⟨kvs[x]'(by rw [hlen]; exact hlt), List.getElem?_eq_getElem _⟩
      obtain ⟨k, v⟩ := kv
      obtain ⟨hkey, hval⟩ := hpa.get? (e := esa[x]) (by simp [hlt]) hkv
      obtain ⟨k', hkey', hhash⟩ := hka esa[x] (Array.getElem_mem hlt)
      obtain rfl : k' = k := knd.inj _ _ _ hkey' hkey
      have hmx : (merged ds (kvs.take x)).length ≤ sizeLine := by
        have e1 := merged_length_le ds (kvs.take x)
        have e2 : (kvs.take x).length ≤ kvs.length := by
          rw [List.length_take]
          omega
        omega
      refine hf x h' esa[x] _ hlt hoa' (Array.getElem?_eq_getElem hlt) ?_
      rw [hhash, hval]
      refine wpAny_put (s := { s with heap := h' }) hkey hd' (fun h'' hd'' hs'' => ?_) hmx
      have hoa'' : h''.get? a = some oa := (hs''.2 a hne).trans hoa'
      exact ⟨h'', rfl, hoa'', h'', x + 1, rfl, hrest, hlt, by rw [merged_take_succ ds kvs x (k', v) hkv]; exact hd'', hoa'', hs'.trans hs''⟩
    · rintro b s' ⟨h', i, rfl, hr, hi, hd', hoa', hs'⟩
      have hin : i = esa.size := by
        rcases Nat.lt_or_ge i esa.size with h | h
        · have e : esa.size - i = (esa.size - (i + 1)) + 1 := by omega
          rw [e, List.range'_succ] at hr
          exact nomatch hr
        · exact Nat.le_antisymm hi h
      rw [hin, ← hlen, List.take_length] at hd'
      exact hR h' hd' hs'
  rcases first with e1 | e1
  · rw [if_pos e1]
    refine wpAny_bind (wpAny_dictEntries hoa hda (wpAny_bind ?_))
    rw [← Array.forIn_toList]
    refine wpAny_forIn_list _ (fun rest _ s' => s' = s ∧ ∀ e ∈ rest, ∀ x, e.key ≠ .ref x) _ ?_ ?_ _ _ ⟨rfl, fun e he => noRef e (Array.mem_toList_iff.mp he)⟩
    · rintro x rest b s' ⟨rfl, h⟩
      have h1 := h x (List.mem_cons_self ..)
      have h2 : ∀ e ∈ rest, ∀ y, e.key ≠ .ref y := fun e he => h e (List.mem_cons_of_mem _ he)
      cases hk : x.key with
      | ref y => exact absurd hk (h1 y)
      | _ => exact wpAny_pure ⟨rfl, h2⟩
    · rintro b s' ⟨rfl, _⟩
      refine wpAny_bind (wpAny_dictEntries hoa hda (wpAny_bind (wpAny_dictEpoch hoa hda (wpAny_bind (go _ _ ?_ fun h' h1 h2 => wpAny_pure (hQ h' h1 h2))))))
      intro i h' e T hi hoa' hei hput
      refine wpAny_bind (wpAny_dictEntries hoa' hda ?_)
      rw [hei]
      refine wpAny_bind (wpAny_holding ?_)
      rw [if_neg Bool.false_ne_true]
      refine wpAny_mono hput ?_ (fun _ _ z => z)
      rintro _ s' ⟨h'', rfl, hoa'', hT'⟩
      refine wpAny_bind (wpAny_dictEpoch hoa'' hda ?_)
      rw [if_neg (by simp)]
      exact wpAny_pure hT'
  · rw [if_neg (by rw [e1]; exact Bool.false_ne_true)]
    refine wpAny_bind (wpAny_dictEntries hoa hda (wpAny_bind (wpAny_dictEpoch hoa hda (wpAny_bind (go _ _ ?_ fun h' h1 h2 => wpAny_pure (hQ h' h1 h2))))))
    intro i h' e T hi hoa' hei hput
    refine wpAny_bind (wpAny_dictEntries hoa' hda ?_)
    rw [hei]
    refine wpAny_bind (wpAny_holding ?_)
    rw [if_neg Bool.false_ne_true]
    refine wpAny_mono hput ?_ (fun _ _ z => z)
    rintro _ s' ⟨h'', rfl, hoa'', hT'⟩
    refine wpAny_bind (wpAny_dictEpoch hoa'' hda ?_)
    rw [if_neg (by simp)]
    exact wpAny_pure hT'
end
end PySem

set_option Elab.async false
set_option linter.all false
set_option maxRecDepth 100000
set_option maxHeartbeats 4000000
/-! {**d, k: v}, over the layer -/
namespace PySem
/-- the tree of such a display -/
theorem display_two {M : Model} {A : Around} {E : Value → Shared → Prop} {Q : Value → Shared → Prop} {s : Shared} (m k v : Sem Value)
    (h : wpAny M A m (fun x s1 => wpAny M A (mergeMapping s.heap.objs.size x false) (fun _ s2 => wpAny M A (subDict [(k, v)]) (fun sub s3 => wpAny M A (mergeMapping s.heap.objs.size (.ref sub) false) (fun _ s4 => Q (.ref s.heap.objs.size) s4) (fun _ _ => False) s3) E s2) (fun _ _ => False) s1) E
      { s with heap := s.heap.push { cls := .type "dict", data := .dict #[] } }) :
    wpAny M A (dictDisplay [(none, m), (some k, v)]) Q E s := by
  unfold dictDisplay
  dsimp only
  simp only [List.forIn_cons, List.forIn_nil, List.isEmpty_nil, if_true, pure_bind, bind_assoc]
  refine wpAny_bind (wpAny_alloc (wpAny_bind (wpAny_holding (wpAny_mono h (fun x s1 h1 => ?_) fun _ _ z => z))))
  refine wpAny_bind (wpAny_onRaise (wpAny_tryCatch (wpAny_onRaise (wpAny_holding (wpAny_mono h1 (fun _ s2 h2 => ?_) fun _ _ z => z.elim)))))
  simp only [List.nil_append, List.length_singleton, show ((1 : Nat) == 17) = false from rfl, Bool.false_eq_true, if_false, pure_bind, List.isEmpty_cons, bind_assoc]
  refine wpAny_bind (wpAny_holding (wpAny_mono h2 (fun sub s3 h3 => ?_) fun _ _ z => z))
  refine wpAny_bind (wpAny_onRaise (wpAny_holding (wpAny_mono h3 (fun _ s4 h4 => ?_) fun _ _ z => z.elim)))
  exact wpAny_pure h4
end PySem
namespace L2
open PySem PySem.Spec PyProof.Rows
/-- {**e, k: v}: the new dict at p stands empty while e is read, the one pair's dict at q while k and v are -/
def tTake (te tk tv : TE) : TE := fun σ H Q => ∀ p, H p = none → te σ (upd H p (.dK [])) fun x H1 => ∃ (a : Addr) (kvs : List (Key × V)), x = .ref a ∧ a ≠ p ∧ H1 a = some (.dK kvs) ∧ H1 p = some (.dK []) ∧ kvs.length ≤ 1000 ∧
  ∀ q, (upd H1 p (.dK (mergeK [] kvs))) q = none → tk σ (upd (upd H1 p (.dK (mergeK [] kvs))) q (.dK [])) fun y H2 => tv σ H2 fun z H3 => ∃ k : Key, y = kV k ∧ H3 p = some (.dK (mergeK [] kvs)) ∧ H3 q = some (.dK []) ∧
    Q (.ref p) (upd (upd H3 q (.dK [(k, z)])) p (.dK (putK (mergeK [] kvs) k z)))
theorem pe_take {X : Cx} {e k v : Expr} {pos : Pos} {te tk tv : TE} (he : PE X e te) (hk : PE X k tk) (hv : PE X v tv) : PE X (.Dict [none, some k] [e, v] pos) (tTake te tk tv) := by
  constructor
  intro pins s σ H Q I read
  rw [arm_eval_Dict]
  refine wpAny_bind (wpAny_standAt ?_)
  show wpAny _ _ (dictDisplay [(none, do let x ← eval e X.env; standAt pos; pure x), (some (eval k X.env), do let x ← eval v X.env; standAt pos; pure x)]) _ _ _
  refine display_two _ _ _ ?_
  have hn := I.hok.fresh (Nat.le_refl s.heap.objs.size)
  have I1 := I.laid (a := s.heap.objs.size) (o := .dK []) (h' := s.heap.push { cls := .type "dict", data := .dict #[] }) (t' := s.toks) (fun _ _ q => Heap.get?_push_of_some _ q) (Nat.le_refl _) (dk_empty s.heap I.big)
  refine wpAny_bind (thn (he.run pins _ σ _ _ I1 (read _ hn)) ?_)
  rintro u s1 ⟨x, H1, J1, rx, a, kvs, rfl, hap, ha, hp, hz, q2⟩
  refine wpAny_bind (wpAny_standAt (wpAny_pure ?_))
  obtain rfl : u = Value.ref a := rx
  obtain ⟨za, sa, vs, rel, dd⟩ := dk_of J1.hok ha
  obtain ⟨zp, sp, vs0, r0, dd0⟩ := dk_of J1.hok hp
  cases r0
  have lvs : vs.length = kvs.length := rel.length.symm
  refine wpAny_merge (knd := mixKind X.prog X.w) hap sa dd0 dd (fun h2 d2 sb2 => ?_) (by
    show 0 + vs.length ≤ sizeLine
    rw [sizeLine_eq]
    omega)
  have e2 : ∃ o, h2.get? s.heap.objs.size = some o := let ⟨o, _, _, ho, _⟩ := d2; ⟨o, ho⟩
  have hm : (mergeK [] kvs).length ≤ 1000 := by
    have h1 := length_mergeK kvs []
    rw [List.length_nil] at h1
    omega
  have J2 := d_write (t' := s1.toks) J1 (by rw [hp]; exact True.intro) sb2 e2 (dk_new (by rw [sizeLine_eq]; omega) sp (rel.merge .nil) d2)
  have hq := J2.hok.fresh (Nat.le_refl h2.objs.size)
  have J3 := J2.laid (a := h2.objs.size) (o := .dK []) (h' := h2.push { cls := .type "dict", data := .dict #[] }) (t' := s1.toks) (fun _ _ q => Heap.get?_push_of_some _ q) (Nat.le_refl _) (dk_empty h2 J2.big)
  have one : PPs X pos [some k] [v] [(tk, tv)] := pps_cons hk hv pps_nil
  refine wpAny_subDict (knd := mixKind X.prog X.w) (by show 1 ≤ 15; decide) ?_
  have walk := one.run pins _ σ _ (fun ps H3 => ∃ ky : Key, (ps.headD (.non, .non)).1 = kV ky ∧ H3 s.heap.objs.size = some (.dK (mergeK [] kvs)) ∧ H3 h2.objs.size = some (.dK []) ∧
    Q (.ref s.heap.objs.size) (upd (upd H3 h2.objs.size (.dK [(ky, (ps.headD (.non, .non)).2)])) s.heap.objs.size (.dK (putK (mergeK [] kvs) ky (ps.headD (.non, .non)).2)))) J3 (q2 _ hq)
  refine thn (wpAny_evalPairs_len walk) ?_
  · rintro ws s3 ⟨lw, ps, H3, J4, rvv, ky, hky, hp3, hq3, fin⟩
    obtain ⟨y, z, rfl⟩ : ∃ y z, ps = [(y, z)] := by
      have l1 : ps.length = 1 := (Paired.length rvv).trans lw
      match ps, l1 with
      | [(y, z)], _ => exact ⟨y, z, rfl⟩
    obtain rfl : y = kV ky := hky
    obtain ⟨rs, c, rk⟩ := carries_of (P := X.prog) (w := X.w) (kvs := [(ky, z)]) rvv
    obtain ⟨zq, sq, vq0, rq0, dq0⟩ := dk_of J4.hok hq3
    cases rq0
    refine ⟨rs, c, dq0, fun h4 d4 sb4 => ?_⟩
    have e4 : ∃ o, h4.get? h2.objs.size = some o := let ⟨o, _, _, ho, _⟩ := d4; ⟨o, ho⟩
    have hqp : h2.objs.size ≠ s.heap.objs.size := fun e => by
      rw [e, upd_same] at hq
      cases hq
    have J5 := d_write (t' := s3.toks + ws.length) J4 (by rw [hq3]; exact True.intro) sb4 e4 (dk_new (kvs := mergeK [] [(ky, z)]) (by
      rw [sizeLine_eq]
      have : (mergeK [] [(ky, z)]).length ≤ 1 := length_mergeK [(ky, z)] []
      omega) sq (rk.merge .nil) d4)
    have hp5 : (upd H3 h2.objs.size (.dK (mergeK [] [(ky, z)]))) s.heap.objs.size = some (.dK (mergeK [] kvs)) := by
      rw [upd_ne (Ne.symm hqp)]
      exact hp3
    obtain ⟨zp5, sp5, vp, rp, dp⟩ := dk_of J5.hok hp5
    have lrs : rs.length = 1 := rk.length.symm
    have lvp : vp.length ≤ 1000 := by
      rw [← rp.length]
      exact hm
    have lm := merged_length_le ([] : List (Key × Value)) rs
    refine wpAny_merge (knd := mixKind X.prog X.w) hqp sq dp d4 (fun h6 d6 sb6 => ?_) (by
      rw [List.length_nil] at lm
      rw [sizeLine_eq]
      omega)
    have e6 : ∃ o, h6.get? s.heap.objs.size = some o := let ⟨o, _, _, ho, _⟩ := d6; ⟨o, ho⟩
    have lk := length_mergeK (mergeK [] [(ky, z)]) (mergeK [] kvs)
    have J6 := d_write (t' := s3.toks + ws.length) J5 (by rw [hp5]; exact True.intro) sb6 e6 (dk_new (kvs := mergeK (mergeK [] kvs) (mergeK [] [(ky, z)])) (by
      rw [sizeLine_eq]
      have : (mergeK [] [(ky, z)]).length ≤ 1 := length_mergeK [(ky, z)] []
      omega) sp5 ((rk.merge .nil).merge rp) d6)
    exact ⟨.ref s.heap.objs.size, _, J6, rfl, fin⟩
end L2

set_option Elab.async false
set_option linter.all false
set_option maxRecDepth 100000
set_option maxHeartbeats 4000000
/-! readings with two ways, sequences that are lists or tuples, defs that raise -/
namespace Pu
open PySem PySem.Spec PyProof.Rows L2
section
variable {X : Cx}
theorem pi_or {tg e : Expr} {t1 t2 : TI} (h1 : PI X tg e t1) (h2 : PI X tg e t2) : PI X tg e (fun σ H R => t1 σ H R ∨ t2 σ H R) := by
  constructor
  rintro pins s σ H R I (h | h)
  · exact h1.run pins s σ H R I h
  · exact h2.run pins s σ H R I h
theorem pe_either {e : Expr} {t1 t2 : TE} (h1 : PE X e t1) (h2 : PE X e t2) : PE X e (fun σ H Q => t1 σ H Q ∨ t2 σ H Q) := by
  constructor
  rintro pins s σ H Q I (h | h)
  · exact h1.run pins s σ H Q I h
  · exact h2.run pins s σ H Q I h
theorem isiTK (K : PySem.W.Frag) (h : X.K = K := by rfl) : CallR X (.builtin "isinstance") (rIsiT K) := by
  subst h
  exact call_isiT
theorem slSeq (K : PySem.W.Frag) (h : X.K = K := by rfl) : SlR X (fun x lo hi H Q => rSlL K x lo hi H Q ∨ rSlT K x lo hi H Q) := by
  subst h
  exact sl_list.or sl_tup
theorem tupOf (K : PySem.W.Frag) (h : X.K = K := by rfl) : CallR X (.type "tuple") (fun xs H Q => ∃ p ys, xs = [.ref p] ∧ ((SqL K H p ys ∧ ∀ l, H l = none → Q (.ref l) (upd H l (.tup ys))) ∨ (SqT K H p ys ∧ Q (.ref p) H))) := by
  subst h
  exact call_tuple_of
theorem lstOf (K : PySem.W.Frag) (h : X.K = K := by rfl) : CallR X (.type "list") (fun xs H Q => ∃ p ys, xs = [.ref p] ∧ (SqL K H p ys ∨ SqT K H p ys) ∧ ∀ l, H l = none → Q (.ref l) (upd H l (.lst ys))) := by
  subst h
  exact call_list_of
/-- a list or a tuple -/
abbrev Sq (K : PySem.W.Frag) (H : Hp) (a : Addr) (xs : List V) : Prop := SqL K H a xs ∨ SqT K H a xs
theorem sql_same {K : PySem.W.Frag} {H H' : Hp} {a : Addr} {xs : List V} (h : SqL K H a xs) (s : Same H H') : SqL K H' a xs := by
  rcases h with (h | ⟨o, h⟩) | h
  · exact .inl (.inl (s _ _ h))
  · exact .inl (.inr ⟨o, s _ _ h⟩)
  · exact .inr h
theorem sqt_same {K : PySem.W.Frag} {H H' : Hp} {a : Addr} {xs : List V} (h : SqT K H a xs) (s : Same H H') : SqT K H' a xs := by
  rcases h with (h | ⟨o, h⟩) | h
  · exact .inl (.inl (s _ _ h))
  · exact .inl (.inr ⟨o, s _ _ h⟩)
  · exact .inr h
theorem sq_same {K : PySem.W.Frag} {H H' : Hp} {a : Addr} {xs : List V} (h : Sq K H a xs) (s : Same H H') : Sq K H' a xs := by
  exact h.elim (fun h => .inl (sql_same h s)) fun h => .inr (sqt_same h s)
theorem walk_enumT {K : PySem.W.Frag} {a : Addr} {xs : List V} : Walk (IteT K a) xs.length (fun H => SqT K H a xs) (YPair (fun i => some (.int (i : Nat))) (fun i => xs[i]?)) := by
  refine ⟨fun i _ hi q => ⟨xs, xs[i], q, by simp [hi]⟩, fun _ q => ⟨xs, q, Nat.le_refl _⟩, fun i H v H' _ q y => ?_⟩
  obtain ⟨T, x, h1, h2, h3, h4⟩ := y
  exact ⟨T, .int (i : Nat), x, h1, h2, h3, rfl, h4 xs q⟩
/-- enumerate(a list or a tuple) -/
def iEnumS (K : PySem.W.Frag) (ta : TA) : TI := fun σ H R => iEnum K ta σ H R ∨ iEnumT K ta σ H R
theorem pi_enumS {e : Expr} {ta : TA} {p pos tpos : Pos} {elts : List Expr} {kk : Nat} (K : PySem.W.Frag) (hg : Gl X "enumerate") (hm : X.mg "enumerate" = none) (ha : PA X [e] ta) (hs : starEach [e] X.env = [(false, eval e X.env)] := by rfl) (h : X.K = K := by rfl) :
    PI X (.Tuple elts kk tpos) (.Call (.Name "enumerate" p) [e] [] pos) (iEnumS K ta) := by
  subst h
  exact pi_or (pi_enum hg hm ha hs) (pi_enumT hg hm ha hs)
def iSeq (K : PySem.W.Frag) (tl : TE) : TI := fun σ H R => iList K tl σ H R ∨ iTup K tl σ H R
theorem pi_seq {tg l : Expr} {tl : TE} (K : PySem.W.Frag) (hl : PE X l tl) (h : X.K = K := by rfl) : PI X tg l (iSeq K tl) := by
  subst h
  exact pi_or (pi_list hl) (pi_tup hl)
end
/-! ### loops over such a sequence, which stays -/
section
variable {K : PySem.W.Frag} {a : Addr} {xs : List V}
theorem for_seq {te : TE} {g : TG} {tb : TS} {D : Ends} {σ : L2.St} {H : Hp} (Pv : Nat → L2.St → Hp → Prop) (he : ∀ Q : VK, Q (.ref a) H → te σ H Q) (hq : Sq K H a xs) (h0 : Pv 0 σ H) (hG : ∀ i σ' H', i ≤ xs.length → Pv i σ' H' → Same H H')
    (hs : ∀ i x σ' H', xs[i]? = some x → Pv i σ' H' → g x σ' H' fun σ2 H2 => tb { D with nx := Pv (i + 1), ct := Pv (i + 1), bk := D.nx } σ2 H2) (hd : ∀ σ' H', Pv xs.length σ' H' → D.nx σ' H') : tFor (iSeq K te) g tb D σ H := by
  rcases hq with hl | ht
  · refine .inl (he _ ⟨a, rfl, ⟨xs, hl⟩, for_it (Walk.mono (walk_list (K := K) (a := a) (xs := xs)) (G' := fun H' => Same H H') (fun H' s => sql_same hl s) fun _ _ _ _ _ _ y => y) Pv h0 hG (fun i x σ' H1 H2 hi p y => ?_) hd⟩)
    obtain ⟨rfl, hx⟩ := y
    exact hs i x σ' _ hx p
  · refine .inr (he _ ⟨a, rfl, ⟨xs, ht⟩, for_it (Walk.mono (walk_tup (K := K) (a := a) (xs := xs)) (G' := fun H' => Same H H') (fun H' s => sqt_same ht s) fun _ _ _ _ _ _ y => y) Pv h0 hG (fun i x σ' H1 H2 hi p y => ?_) hd⟩)
    obtain ⟨rfl, hx⟩ := y
    exact hs i x σ' _ hx p
theorem for_enumS {ta : TA} {g : TG} {tb : TS} {D : Ends} {σ : L2.St} {H : Hp} (Pv : Nat → L2.St → Hp → Prop) (he : ∀ Q : List V → Hp → Prop, Q [.ref a] H → ta σ H Q) (hq : Sq K H a xs) (h0 : Pv 0 σ H) (hG : ∀ i σ' H', i ≤ xs.length → Pv i σ' H' → Same H H')
    (hs : ∀ i x T σ' H', xs[i]? = some x → Pv i σ' H' → H' T = none → g (.ref T) σ' (upd H' T (.tup [.int (i : Nat), x])) fun σ2 H2 => tb { D with nx := Pv (i + 1), ct := Pv (i + 1), bk := D.nx } σ2 H2) (hd : ∀ σ' H', Pv xs.length σ' H' → D.nx σ' H') : tFor (iEnumS K ta) g tb D σ H := by
  rcases hq with hl | ht
  · refine .inl (he _ ⟨a, xs, rfl, hl, for_it (Walk.mono (walk_enum (K := K) (a := a) (xs := xs)) (G' := fun H' => Same H H') (fun H' s => sql_same hl s) fun _ _ _ _ _ _ y => y) Pv h0 hG (fun i x σ' H1 H2 hi p y => ?_) hd⟩)
    obtain ⟨T, u, z, rfl, hT, rfl, hu, hz⟩ := y
    cases hu
    exact hs i z T σ' _ hz p hT
  · refine .inr (he _ ⟨a, xs, rfl, ht, for_it (Walk.mono (walk_enumT (K := K) (a := a) (xs := xs)) (G' := fun H' => Same H H') (fun H' s => sqt_same ht s) fun _ _ _ _ _ _ y => y) Pv h0 hG (fun i x σ' H1 H2 hi p y => ?_) hd⟩)
    obtain ⟨T, u, z, rfl, hT, rfl, hu, hz⟩ := y
    cases hu
    exact hs i z T σ' _ hz p hT
/-- the same where the sequence alone stays -/
theorem sql_at {H H' : Hp} (h : SqL K H a xs) (s : ∀ o, H a = some o → H' a = some o) : SqL K H' a xs := by
  rcases h with (h | ⟨o, h⟩) | h
  · exact .inl (.inl (s _ h))
  · exact .inl (.inr ⟨o, s _ h⟩)
  · exact .inr h
theorem sqt_at {H H' : Hp} (h : SqT K H a xs) (s : ∀ o, H a = some o → H' a = some o) : SqT K H' a xs := by
  rcases h with (h | ⟨o, h⟩) | h
  · exact .inl (.inl (s _ h))
  · exact .inl (.inr ⟨o, s _ h⟩)
  · exact .inr h
theorem sq_at {H H' : Hp} (h : Sq K H a xs) (s : ∀ o, H a = some o → H' a = some o) : Sq K H' a xs := h.elim (fun h => .inl (sql_at h s)) fun h => .inr (sqt_at h s)
theorem for_seqA {te : TE} {g : TG} {tb : TS} {D : Ends} {σ : L2.St} {H H0 : Hp} (Pv : Nat → L2.St → Hp → Prop) (he : ∀ Q : VK, Q (.ref a) H → te σ H Q) (hq : Sq K H0 a xs) (h0 : Pv 0 σ H) (hG : ∀ i σ' H', i ≤ xs.length → Pv i σ' H' → ∀ o, H0 a = some o → H' a = some o)
    (hs : ∀ i x σ' H', xs[i]? = some x → Pv i σ' H' → g x σ' H' fun σ2 H2 => tb { D with nx := Pv (i + 1), ct := Pv (i + 1), bk := D.nx } σ2 H2) (hd : ∀ σ' H', Pv xs.length σ' H' → D.nx σ' H') : tFor (iSeq K te) g tb D σ H := by
  rcases hq with hl | ht
  · refine .inl (he _ ⟨a, rfl, ⟨xs, sql_at hl (hG 0 _ _ (Nat.zero_le _) h0)⟩, for_it (Walk.mono (walk_list (K := K) (a := a) (xs := xs)) (G' := fun H' => ∀ o, H0 a = some o → H' a = some o) (fun H' s => sql_at hl s) fun _ _ _ _ _ _ y => y) Pv h0 hG (fun i x σ' H1 H2 hi p y => ?_) hd⟩)
    obtain ⟨rfl, hx⟩ := y
    exact hs i x σ' _ hx p
  · refine .inr (he _ ⟨a, rfl, ⟨xs, sqt_at ht (hG 0 _ _ (Nat.zero_le _) h0)⟩, for_it (Walk.mono (walk_tup (K := K) (a := a) (xs := xs)) (G' := fun H' => ∀ o, H0 a = some o → H' a = some o) (fun H' s => sqt_at ht s) fun _ _ _ _ _ _ y => y) Pv h0 hG (fun i x σ' H1 H2 hi p y => ?_) hd⟩)
    obtain ⟨rfl, hx⟩ := y
    exact hs i x σ' _ hx p
/-- comprehensions over such a sequence -/
theorem lc_seq {te0 : TE} {g : TG} {tt : TT} {te : TE} {vs : List Nat} {σ : L2.St} {H H0 : Hp} {Q : VK} (Pv : Addr → Nat → Hp → Prop) (he : ∀ Q : VK, Q (.ref a) H → te0 σ H Q) (hq : Sq K H0 a xs) (hH : ∀ o, H0 a = some o → H a = some o) (h0 : ∀ D, H D = none → Pv D 0 (upd H D (.lst []))) (hG : ∀ D, H D = none → ∀ i H', i ≤ xs.length → Pv D i H' → ∀ o, H0 a = some o → H' a = some o)
    (hs : ∀ D, H D = none → ∀ i x H', xs[i]? = some x → Pv D i H' → g x (wipe σ vs) H' fun σ2 H2 => wipe σ2 vs = wipe σ vs ∧ tt σ2 H2 fun b H3 =>
      if b = true then te σ2 H3 fun y H4 => ∃ acc, H4 D = some (.lst acc) ∧ acc.length < sizeLine ∧ Pv D (i + 1) (upd H4 D (.lst (acc ++ [y]))) else Pv D (i + 1) H3) (hd : ∀ D, H D = none → ∀ H', Pv D xs.length H' → Q (.ref D) H') : tLc (iSeq K te0) g tt te vs σ H Q := by
  rcases hq with hl | ht
  · refine .inl (he _ ⟨a, rfl, ⟨xs, sql_at hl hH⟩, fun D hD => lc_it (Walk.mono (walk_list (K := K) (a := a) (xs := xs)) (G' := fun H' => ∀ o, H0 a = some o → H' a = some o) (fun H' s => sql_at hl s) fun _ _ _ _ _ _ y => y) (Pv D) (h0 D hD) (hG D hD) (fun i x H1 H2 hi p y => ?_) (hd D hD)⟩)
    obtain ⟨rfl, hx⟩ := y
    exact hs D hD i x _ hx p
  · refine .inr (he _ ⟨a, rfl, ⟨xs, sqt_at ht hH⟩, fun D hD => lc_it (Walk.mono (walk_tup (K := K) (a := a) (xs := xs)) (G' := fun H' => ∀ o, H0 a = some o → H' a = some o) (fun H' s => sqt_at ht s) fun _ _ _ _ _ _ y => y) (Pv D) (h0 D hD) (hG D hD) (fun i x H1 H2 hi p y => ?_) (hd D hD)⟩)
    obtain ⟨rfl, hx⟩ := y
    exact hs D hD i x _ hx p
theorem dcT_seq {te0 : TE} {g : TG} {tt : TT} {tk tv : TE} {vs : List Nat} {σ : L2.St} {H H0 : Hp} {Q : VK} (Pv : Addr → Nat → Hp → Prop) (he : ∀ Q : VK, Q (.ref a) H → te0 σ H Q) (hq : Sq K H0 a xs) (hH : ∀ o, H0 a = some o → H a = some o) (h0 : ∀ D, H D = none → Pv D 0 (upd H D (.dT []))) (hG : ∀ D, H D = none → ∀ i H', i ≤ xs.length → Pv D i H' → ∀ o, H0 a = some o → H' a = some o)
    (hs : ∀ D, H D = none → ∀ i x H', xs[i]? = some x → Pv D i H' → g x (wipe σ vs) H' fun σ2 H2 => wipe σ2 vs = wipe σ vs ∧ tt σ2 H2 fun b H3 =>
      if b = true then tk σ2 H3 fun y H4 => tv σ2 H4 fun z H5 => ∃ (kvs : List (List Key × V)) (k : List Key) (b : Addr), y = .ref b ∧ H5 b = some (.tup (k.map kV)) ∧ H5 D = some (.dT kvs) ∧ kvs.length < sizeLine ∧ Pv D (i + 1) (upd H5 D (.dT (putK kvs k z))) else Pv D (i + 1) H3) (hd : ∀ D, H D = none → ∀ H', Pv D xs.length H' → Q (.ref D) H') : tDcT (iSeq K te0) g tt tk tv vs σ H Q := by
  rcases hq with hl | ht
  · refine .inl (he _ ⟨a, rfl, ⟨xs, sql_at hl hH⟩, fun D hD => dcT_it (Walk.mono (walk_list (K := K) (a := a) (xs := xs)) (G' := fun H' => ∀ o, H0 a = some o → H' a = some o) (fun H' s => sql_at hl s) fun _ _ _ _ _ _ y => y) (Pv D) (h0 D hD) (hG D hD) (fun i x H1 H2 hi p y => ?_) (hd D hD)⟩)
    obtain ⟨rfl, hx⟩ := y
    exact hs D hD i x _ hx p
  · refine .inr (he _ ⟨a, rfl, ⟨xs, sqt_at ht hH⟩, fun D hD => dcT_it (Walk.mono (walk_tup (K := K) (a := a) (xs := xs)) (G' := fun H' => ∀ o, H0 a = some o → H' a = some o) (fun H' s => sqt_at ht s) fun _ _ _ _ _ _ y => y) (Pv D) (h0 D hD) (hG D hD) (fun i x H1 H2 hi p y => ?_) (hd D hD)⟩)
    obtain ⟨rfl, hx⟩ := y
    exact hs D hD i x _ hx p
end
/-! ### a def of the module that may raise -/
structure CalX (P : Program) (w : World) (K : PySem.W.Frag) (mg : Str → Option Value) (base : Heap) (k : Nat) (x : Str) (sp : Sp) : Prop where
  ex : ∃ (f : Addr) (fd : FuncData) (ps : List Str), FnOk P w K mg base (L2.CX P w) k f fd ps sp ∧ mg x = some (.ref f) ∧ PySem.W.keepIn K (.ref f) = true ∧ Binds K fd ps []
theorem CalX.mk0 {P : Program} {w : World} {K : PySem.W.Frag} {mg : Str → Option Value} {base : Heap} {k : Nat} {x : Str} {sp : Sp} {f : Addr} {fd : FuncData} {ps : List Str} (F : FnOk P w K mg base (L2.CX P w) k f fd ps sp) (hm : mg x = some (.ref f)) (kp : PySem.W.keepIn K (.ref f) = true) (b : Binds K fd ps []) : CalX P w K mg base k x sp :=
  ⟨f, fd, ps, F, hm, kp, b⟩
/-- a call whose error goes where W says -/
theorem pe_cX {X : Cx} {k j : Nat} {x : Str} {sp : Sp} {W : WX} {e : Expr} {es : List Expr} {t : TA} {p pos : Pos} (c : CalX X.prog X.w X.K X.mg X.base k x sp) (tk : Takes X W) (hr : Room j X.A) (hk : k ≤ j) (hg : Gl X x) (ha : PA X (e :: es) t)
    (hdb : (x == ("__debug__" : Str)) = false := by decide) (he : starEach (e :: es) X.env = (false, eval e X.env) :: starEach es X.env := by rfl) (hpl : (backTo pos (starEach es X.env)).any (·.1) = false := by rfl) :
    PE X (.Call (.Name x p) (e :: es) [] pos) (tCallS sp (WE W) t) := by
  obtain ⟨f, fd, ps, F, hm, kp, b⟩ := c.ex
  exact pe_callS F (hr.mono hk) hg hm kp b (passAt tk) ha hdb he hpl
/-- a call that raises nothing -/
theorem pe_cX0 {X : Cx} {k j : Nat} {x : Str} {sp : Sp} {e : Expr} {es : List Expr} {t : TA} {p pos : Pos} (c : CalX X.prog X.w X.K X.mg X.base k x sp) (hr : Room j X.A) (hk : k ≤ j) (hg : Gl X x) (ha : PA X (e :: es) t)
    (hdb : (x == ("__debug__" : Str)) = false := by decide) (he : starEach (e :: es) X.env = (false, eval e X.env) :: starEach es X.env := by rfl) (hpl : (backTo pos (starEach es X.env)).any (·.1) = false := by rfl) :
    PE X (.Call (.Name x p) (e :: es) [] pos) (tCall sp [] E0 t) := by
  obtain ⟨f, fd, ps, F, hm, kp, b⟩ := c.ex
  exact pe_call F (hr.mono hk) hg hm kp b .nil passL ha hdb he hpl
end Pu
namespace Pu
open PySem PySem.Spec PyProof.Rows L2
/-! what is never reached -/
theorem ps_no {X : Cx} {st : Stmt} : PS X st (fun _ _ _ => False) := ⟨fun _ _ _ _ _ _ h => h.elim⟩
theorem pe_no {X : Cx} {e : Expr} : PE X e (fun _ _ _ => False) := ⟨fun _ _ _ _ _ _ h => h.elim⟩
end Pu
namespace Pu
open PySem PySem.Spec PyProof.Rows L2
/-! the same by name, for theorems whose conclusion is a reading -/
theorem seq_asg {te : TE} {g : TG} {u : TS} {D : Ends} {σ : L2.St} {H : Hp} (h : te σ H fun x H1 => g x σ H1 (u D)) : tSeq (tAsg te g) u D σ H := h
theorem seq_st {t u : TS} {D : Ends} {σ : L2.St} {H : Hp} (h : t { D with nx := u D } σ H) : tSeq t u D σ H := h
theorem ret_of {te : TE} {D : Ends} {σ : L2.St} {H : Hp} (h : te σ H D.rt) : tRet te D σ H := h
theorem gname {i : Nat} {v : V} {σ : L2.St} {H : Hp} {k : L2.St → Hp → Prop} (h : k (σ.set i (some v)) H) : gName i v σ H k := h
end Pu
namespace Pu
open PySem PySem.Spec PyProof.Rows L2
theorem pe_cls {X : Cx} {x : Str} {C : Addr} {pos : Pos} (hg : Gl X x) (hm : X.mg x = some (.ref C)) (hd : (x == ("__debug__" : Str)) = false := by decide) : PE X (.Name x pos) (tC (.ref C)) := pe_glob hg hm (show RelV (V.ref C) (Value.ref C) from rfl) hd
end Pu

set_option Elab.async false
set_option linter.all false
set_option maxRecDepth 100000
set_option maxHeartbeats 4000000
namespace Pk
open PySem PySem.Spec PyProof.Rows L2 Pu
def topS (i : Nat) : Stmt := PySem.Challenge.pw_pileups_k92_whole_runs_and_what_is_seen.main.body.getD i (.Pass ⟨0, 0, 0, 0⟩)
structure Txt (mg : Str → Option Value) : Prop where
  m_all : mg "all" = none
  m_any : mg "any" = none
  m_bool : mg "bool" = none
  m_dict : mg "dict" = none
  m_enumerate : mg "enumerate" = none
  m_int : mg "int" = none
  m_isinstance : mg "isinstance" = none
  m_len : mg "len" = none
  m_list : mg "list" = none
  m_max : mg "max" = none
  m_min : mg "min" = none
  m_range : mg "range" = none
  m_reversed : mg "reversed" = none
  m_sorted : mg "sorted" = none
  m_str : mg "str" = none
  m_sum : mg "sum" = none
  m_tuple : mg "tuple" = none
  m_NOTHING : ∃ t, mg "NOTHING" = some (.str ("" : Str) t)
  m_LETTERS : ∃ t, mg "LETTERS" = some (.str ("abcdefghijklmnopqrstuvwxyz" : Str) t)
  m_LONGEST_NAME : ∃ t, mg "LONGEST_NAME" = some (.int 8 t)
  m_BILLION : ∃ t, mg "BILLION" = some (.int 1000000000 t)
  m_MOST_EVENTS : ∃ t, mg "MOST_EVENTS" = some (.int 8 t)
  m_MOST_TIES : ∃ t, mg "MOST_TIES" = some (.int 60 t)
  m_MOST_LOGS : ∃ t, mg "MOST_LOGS" = some (.int 80 t)
  m_LONGEST_LOG : ∃ t, mg "LONGEST_LOG" = some (.int 200 t)
abbrev s_is_integer : Stmt := topS 28
theorem sc_is_integer : FnScope ["value"] ["value"] (defScope s_is_integer) := ⟨rfl, rfl, rfl, by decide +kernel, rfl, by decide +kernel, by decide +kernel⟩
abbrev s_is_count : Stmt := topS 29
theorem sc_is_count : FnScope ["value"] ["value"] (defScope s_is_count) := ⟨rfl, rfl, rfl, by decide +kernel, rfl, by decide +kernel, by decide +kernel⟩
abbrev s_is_name : Stmt := topS 30
theorem sc_is_name : FnScope ["value", "letter"] ["value"] (defScope s_is_name) := ⟨rfl, rfl, rfl, by decide +kernel, rfl, by decide +kernel, by decide +kernel⟩
abbrev s_law_cell : Stmt := topS 68
theorem sc_law_cell : FnScope ["_law_script", "_law_k"] ["_law_script", "_law_k"] (defScope s_law_cell) := ⟨rfl, rfl, rfl, by decide +kernel, rfl, by decide +kernel, by decide +kernel⟩
abbrev s_law_box : Stmt := topS 69
theorem sc_law_box : FnScope ["_law_cell_here"] ["_law_cell_here"] (defScope s_law_box) := ⟨rfl, rfl, rfl, by decide +kernel, rfl, by decide +kernel, by decide +kernel⟩
abbrev s_law_take : Stmt := topS 70
theorem sc_law_take : FnScope ["_law_box_here", "_law_many", "_law_digit", "_law_number"] ["_law_box_here", "_law_many"] (defScope s_law_take) := ⟨rfl, rfl, rfl, by decide +kernel, rfl, by decide +kernel, by decide +kernel⟩

/-! ### kinds -/
def clss : List String := ["int", "bool", "str", "list", "tuple", "dict"]
def kinds : List String := ["NoneType", "bool", "int", "str", "list", "tuple", "dict"]
def isk (a b : String) : Bool := a == b || (a == "bool" && b == "int")
theorem kit_all : ∀ a ∈ kinds, ∀ b ∈ clss, kitB a b = some (isk a b) := by decide +kernel
theorem kitx {K : PySem.W.Frag} {T c : String} (hk : T ∈ kinds) (hc : c ∈ clss) : PySem.W.kitOne K (.type T) (.type c) = some (isk T c) := kit_ty (kit_all T hk c hc)
theorem kity {K : PySem.W.Frag} {T c : String} (b : Bool) (hk : T ∈ kinds) (hc : c ∈ clss) (e : isk T c = b) : PySem.W.kitOne K (.type T) (.type c) = some b := by rw [← e]; exact kitx hk hc
abbrev abc : Str := "abcdefghijklmnopqrstuvwxyz"
def nameOk (s : Str) : Bool := decide (1 ≤ s.length ∧ s.length ≤ 8) && s.cps.toList.all fun c => decide (c ∈ abc.cps.toList)
theorem nameOk_of {s : Str} (h1 : 1 ≤ s.length) (h2 : s.length ≤ 8) : nameOk s = s.cps.toList.all fun c => decide (c ∈ abc.cps.toList) := by
  unfold nameOk
  rw [decide_eq_true (And.intro h1 h2), Bool.true_and]
theorem nameOk_not {s : Str} (h : ¬ (1 ≤ s.length ∧ s.length ≤ 8)) : nameOk s = false := by
  unfold nameOk
  rw [decide_eq_false h, Bool.false_and]
def kindsN : List String := ["NoneType", "bool", "int", "list", "tuple", "dict"]
section
variable {P : Program} {w : World} {K : PySem.W.Frag} {mg : Str → Option Value} {base : Heap}
/-! ### is_integer -/
def spIsInt (K : PySem.W.Frag) : Sp := fun vs H Q _ => ∃ (x : V) (T : String), vs = [x] ∧ TyX K H x (.type T) ∧ T ∈ kinds ∧ Q (.bl (T == "int")) H
theorem ok_is_integer {f : Addr} {fd : FuncData} (F : Fun K "is_integer" "is_integer" s_is_integer f fd) (T : Txt mg) : FnOk P w K mg base CX0 1 f fd ["value"] (spIsInt K) := by
  have nd := sc_is_integer.nd
  refine F.ok sc_is_integer (fun vs H Q E h => ?_) (fun cdv A outer s H vs Q E hr h => ?_)
  · obtain ⟨x, T, rfl, _⟩ := h
    rfl
  · obtain ⟨x, t, rfl, hT, hk, q⟩ := h
    refine ⟨_, (pss_one (ps_ret (pe_and (pe_callB (isiK K) (by rfl) T.m_isinstance PyProof.Rows.boot_isinstance (pa_cons (pv 0) (pa_cons (pe_bltn (v := .ty "int") rfl T.m_int PyProof.Rows.boot_int rfl) pa_nil))) (pe_one (pe_not (pe_callB (isiK K) (by rfl) T.m_isinstance PyProof.Rows.boot_isinstance (pa_cons (pv 0) (pa_cons (pe_bltn (v := .ty "bool") rfl T.m_bool PyProof.Rows.boot_bool rfl) pa_nil)))))))), ?_⟩
    refine ⟨x, rfl, _, _, _, _, _, rfl, .ty _, hT, kitx hk (by decide), _, rfl, ite2 (fun e => ?_) (fun e => ?_)⟩
    · refine ⟨x, rfl, _, _, _, _, _, rfl, .ty _, hT, kitx hk (by decide), _, rfl, ?_⟩
      rw [show (!isk t "bool") = (t == "int") from (show ∀ t ∈ kinds, isk t "int" = true → (!isk t "bool") = (t == "int") by decide) t hk e]
      exact q
    · rw [show (false : Bool) = (t == "int") from (show ∀ t ∈ kinds, ¬ isk t "int" = true → false = (t == "int") by decide) t hk e]
      exact q
/-! ### is_count -/
def spIsCount (K : PySem.W.Frag) : Sp := fun vs H Q _ => (∃ i : Int, vs = [.int i] ∧ Q (.bl (decide (0 ≤ i))) H) ∨ ∃ (x : V) (T : String), vs = [x] ∧ TyX K H x (.type T) ∧ T ∈ kinds ∧ T ≠ "int" ∧ Q (.bl false) H
theorem ok_is_count {f : Addr} {fd : FuncData} (F : Fun K "is_count" "is_count" s_is_count f fd) (T : Txt mg) (cis_integer : Cal P w K mg base 1 "is_integer" (spIsInt K) []) : FnOk P w K mg base CX0 2 f fd ["value"] (spIsCount K) := by
  have nd := sc_is_count.nd
  refine F.ok sc_is_count (fun vs H Q E h => ?_) (fun cdv A outer s H vs Q E hr h => ?_)
  · rcases h with ⟨_, rfl, _⟩ | ⟨_, _, rfl, _⟩ <;> rfl
  · refine ⟨_, (pss_one (ps_ret (pe_and (pe_c cis_integer hr (by decide) rfl (pa_cons (pv 0) pa_nil)) (pe_one (pe_cmpR op_ge (pv 0) pe_int (by rfl)))))), ?_⟩
    rcases h with ⟨i, rfl, q⟩ | ⟨x, t, rfl, hT, hk, hn, q⟩
    · exact ⟨_, rfl, _, "int", rfl, .base (.int i), by decide, _, rfl, ite2 (fun _ => ⟨_, rfl, _, _, rfl, rfl, q⟩) (fun e => absurd rfl e)⟩
    · refine ⟨_, rfl, _, t, rfl, hT, hk, _, rfl, ite2 (fun e => absurd (eq_of_beq e) hn) (fun _ => q)⟩
/-! ### is_name -/
def spIsName (K : PySem.W.Frag) : Sp := fun vs H Q _ => (∃ s : Str, vs = [.str s] ∧ s.length ≤ 1000 ∧ ∀ H', Same H H' → Q (.bl (nameOk s)) H') ∨ ∃ (x : V) (T : String), vs = [x] ∧ TyX K H x (.type T) ∧ T ∈ kindsN ∧ Q (.bl false) H
theorem ok_is_name {f : Addr} {fd : FuncData} (F : Fun K "is_name" "is_name" s_is_name f fd) (T : Txt mg) : FnOk P w K mg base CX0 1 f fd ["value"] (spIsName K) := by
  have nd := sc_is_name.nd
  refine F.ok sc_is_name (fun vs H Q E h => ?_) (fun cdv A outer s H vs Q E hr h => ?_)
  · rcases h with ⟨_, rfl, _⟩ | ⟨_, _, rfl, _⟩ <;> rfl
  · refine ⟨_, (pss_cons (ps_if (PW.pt (pw_or (pt_not (pt_val (pe_callB (isiK K) (by rfl) T.m_isinstance PyProof.Rows.boot_isinstance (pa_cons (pv 0) (pa_cons (pe_bltn (v := .ty "str") rfl T.m_str PyProof.Rows.boot_str rfl) pa_nil))))) (pw_or1 (pt_not (pt_chain op_le op_le pe_int (pe_callB (lenK K) (by rfl) T.m_len PySem.boot_len (pa_cons (pv 0) pa_nil)) (pe_gi rfl T.m_LONGEST_NAME))))))
      (pss_one (ps_ret pe_bl)) pss_nil)
      (pss_one (ps_ret (pe_callB (cr_all rfl) (by rfl) T.m_all PyProof.Rows.boot_all (pa_cons (pe_lc (own := [("letter", 1)]) (g := gName 1) (tt := tYes) rfl nd (pi_str (pv 0)) (blkOk_by (N := ["value", "letter"]) (sc := defScope s_is_name) (by decide +kernel)) (fun _ _ _ _ _ => pg_name (i := 1) nd rfl (Or.inl rfl)) (fun _ _ _ _ _ => pts_nil) (fun _ _ _ _ _ => (pe_cmpR (oIn K) (pv 1) (pe_gs rfl T.m_LETTERS) (by rfl)))) pa_nil))))), ?_⟩
    rcases h with ⟨z, rfl, hz, q⟩ | ⟨x, t, rfl, hT, hk, q⟩
    · refine ⟨_, rfl, _, _, _, _, _, rfl, .ty _, .base (.str z), kity true (by decide) (by decide) rfl, _, rfl, _, rfl, .inr ⟨z, rfl, sz _ (by omega), _, _, rfl, rfl, _, rfl, ite2 (fun e1 => ⟨_, _, rfl, rfl, _, rfl, ite2 (fun e2 => ?_) (fun e2 => ?_)⟩) (fun e1 => ⟨_, rfl, ?_⟩)⟩⟩
      · have e3 : ¬ ((z.length : Int) ≤ 8) := fun hh => by
          rw [decide_eq_true hh] at e2
          exact absurd e2 (by decide)
        have := q H (Same.refl H)
        rw [nameOk_not (by omega)] at this
        exact this
      · have e3 : ((z.length : Int) ≤ 8) := by
          by_cases hh : ((z.length : Int) ≤ 8)
          · exact hh
          · rw [decide_eq_false hh] at e2
            exact absurd rfl e2
        have e4 : (1 : Int) ≤ z.length := of_decide_eq_true e1
        have hn : nameOk z = _ := nameOk_of (s := z) (by omega) (by omega)
        refine ⟨_, rfl, z, rfl, fun D hD => lc_it walk_str (fun i H' => Same H H' ∧ H' D = some (.lst (((z.cps.toList.take i).map fun c => decide (c ∈ abc.cps.toList)).map V.bl))) ⟨same_upd hD, upd_same⟩ (fun _ _ _ _ => trivial) (fun i x H1 H2 hi p y => ?_) (fun H1 p => ?_)⟩
        · obtain ⟨rfl, c, hc, rfl⟩ := y
          refine ⟨rfl, _, rfl, .inl ⟨c, _, rfl, rfl, _, p.2, ?_, ?_, ?_⟩⟩
          · have h9 : z.cps.size = z.length := rfl
            rw [List.length_map, List.length_map, List.length_take, Array.length_toList]
            exact small1000 (by omega)
          · intro b o hb
            rw [upd_ne (ne_of_none hb hD)]
            exact p.1 _ _ hb
          · rw [upd_same, List.take_add_one, show z.cps.toList[i]? = some c by rw [Array.getElem?_toList]; exact hc, List.map_append, List.map_append]
            rfl
        · refine ⟨D, _, rfl, .inl (.inl p.2), ?_⟩
          have hl : z.cps.toList.take z.cps.size = z.cps.toList := List.take_of_length_le (by rw [Array.length_toList]; exact Nat.le_refl _)
          rw [hl, List.all_map]
          have := q H1 p.1
          rw [hn] at this
          exact this
      · have e3 : ¬ ((1 : Int) ≤ z.length) := fun hh => e1 (decide_eq_true hh)
        have := q H (Same.refl H)
        rw [nameOk_not (by omega)] at this
        exact this
    · have hk2 : t ∈ kinds ∧ isk t "str" = false := (show ∀ t ∈ kindsN, t ∈ kinds ∧ isk t "str" = false by decide) t hk
      exact ⟨_, rfl, _, _, _, _, _, rfl, .ty _, hT, kity false hk2.1 (by decide) hk2.2, _, rfl, q⟩

/-! ### the law's numbers -/
theorem ok_cell {f : Addr} {fd : FuncData} (F : Fun K "_law_cell" "_law_cell" s_law_cell f fd) (T : Txt mg) : FnOk P w K mg base CX0 1 f fd ["_law_script", "_law_k"] (Pu.spCell K) := by
  have nd := sc_law_cell.nd
  refine F.ok sc_law_cell (fun vs H Q E h => ?_) (fun cdv A outer s H vs Q E hr h => ?_)
  · obtain ⟨a, ns, k, rfl, _⟩ := h
    rfl
  · obtain ⟨a, ns, k, rfl, hS, q⟩ := h
    refine ⟨_, (pss_cons (ps_if (pt_cmpR op_lt (pv 1) (pe_callB (lenK K) (by rfl) T.m_len PySem.boot_len (pa_cons (pv 0) pa_nil)) (by rfl))
      (pss_one (ps_ret (pe_ix (ixL K) (pv 0) (pv 1) (fun _ _ => rfl)))) pss_nil)
      (pss_one (ps_ret (pe_op oAdd (pe_op op_mul pe_int (pv 1)) pe_int)))), ?_⟩
    refine ⟨_, rfl, _, rfl, .inl ⟨a, _, rfl, .inl hS, _, _, rfl, rfl, _, rfl, ite2 (fun e => ?_) (fun e => ?_)⟩⟩
    · have hk : k < ns.length := by
        have := of_decide_eq_true e
        rw [List.length_map] at this
        omega
      refine ⟨_, rfl, _, rfl, a, _, _, .int ns[k], rfl, rfl, hS, ?_, q _⟩
      exact atI_nat (by rw [List.getElem?_map, List.getElem?_eq_getElem hk]; rfl)
    · exact ⟨_, rfl, _, _, rfl, rfl, .inl ⟨by decide, by decide⟩, .inl ⟨_, _, rfl, rfl, q _⟩⟩
theorem ok_box {f : Addr} {fd : FuncData} (F : Fun K "_law_box" "_law_box" s_law_box f fd) (T : Txt mg) : FnOk P w K mg base CX0 1 f fd ["_law_cell_here"] spBox := by
  have nd := sc_law_box.nd
  refine F.ok sc_law_box (fun vs H Q E h => ?_) (fun cdv A outer s H vs Q E hr h => ?_)
  · obtain ⟨i, rfl, _⟩ := h
    rfl
  · obtain ⟨i, rfl, q⟩ := h
    refine ⟨_, (pss_one (ps_ret (pe_lst (pa_cons (pe_callB (call_max2 rfl) (by rfl) T.m_max PyProof.Rows.boot_max (pa_cons pe_int (pa_cons (pe_op op_sub (pv 0) (pe_op op_pow pe_int pe_int)) pa_nil))) (pa_cons (pe_op op_mod (pv 0) pe_int) (pa_cons pe_int pa_nil)))))), ?_⟩
    refine ⟨_, rfl, _, _, rfl, rfl, ⟨by decide, by decide, by decide⟩, _, _, rfl, rfl, _, _, rfl, _, rfl, _, _, rfl, rfl, (by show (0 : Int) < 2147483629; decide), sz 3, fun p hp => ?_⟩
    refine q p _ hp ⟨_, _, _, upd_same, ?_, ?_, ?_, ?_, ?_⟩ fun a ha => upd_ne ha
    · split <;> omega
    · exact Int.emod_nonneg _ (by decide)
    · have := Int.emod_lt_of_pos i (show (0 : Int) < 2147483629 by decide)
      omega
    · decide
    · decide
theorem ok_take {f : Addr} {fd : FuncData} (F : Fun K "_law_take" "_law_take" s_law_take f fd) (T : Txt mg) : FnOk P w K mg base CX0 1 f fd ["_law_box_here", "_law_many"] spTake := by
  have nd := sc_law_take.nd
  refine F.ok sc_law_take (fun vs H Q E h => ?_) (fun cdv A outer s H vs Q E hr h => ?_)
  · obtain ⟨b, m, n, rfl, _⟩ := h
    rfl
  · obtain ⟨b, m, n, rfl, hm, hm2, hn, ⟨x, y, z, hB, hx, hy, hy2, hz, hzn⟩, q⟩ := h
    refine ⟨_, (pss_cons (ps_if (pt_cmpR op_gt (pe_ix (ixL K) (pv 0) pe_int (fun _ _ => rfl)) pe_int (by rfl))
      (pss_cons (ps_set (i := 2) nd rfl (Or.inl rfl) (pe_op op_mod (pe_ix (ixL K) (pv 0) pe_int (fun _ _ => rfl)) (pv 1)))
      (pss_cons (ps_asg (pe_op op_fdivW (pe_ix (ixL K) (pv 0) pe_int (fun _ _ => rfl)) (pv 1)) (pg_sub (pv 0) pe_int set_list))
      (pss_one (ps_ret (pv 2))))) pss_nil)
      (pss_cons (ps_asg (pe_op oAdd (pe_ix (ixL K) (pv 0) pe_int (fun _ _ => rfl)) pe_int) (pg_sub (pv 0) pe_int set_list))
      (pss_cons (ps_set (i := 3) nd rfl (Or.inl rfl) (pe_op op_mod (pe_op op_pow (pe_op oAdd (pe_op oAdd (pe_ix (ixL K) (pv 0) pe_int (fun _ _ => rfl)) (pe_op op_mul pe_int (pe_ix (ixL K) (pv 0) pe_int (fun _ _ => rfl)))) pe_int) pe_int) pe_int))
      (pss_cons (ps_set (i := 3) nd rfl (Or.inl rfl) (pe_op op_mod (pe_op op_pow (pe_op oAdd (pv 3) (pe_op op_mul pe_int (pe_ix (ixL K) (pv 0) pe_int (fun _ _ => rfl)))) pe_int) pe_int))
      (pss_one (ps_ret (pe_op op_mod (pe_op op_fdiv (pv 3) pe_int) (pv 1)))))))), ?_⟩
    refine ⟨_, rfl, _, _, _, _, rfl, rfl, .inl (.inl hB), rfl, _, _, rfl, rfl, _, rfl, ite2 (fun e => ?_) (fun e => ?_)⟩
    · refine ⟨_, rfl, _, _, _, _, rfl, rfl, .inl (.inl hB), rfl, _, rfl, _, _, rfl, rfl, hm, ?_⟩
      refine ⟨_, rfl, _, _, _, _, rfl, rfl, .inl (.inl hB), rfl, _, rfl, _, _, rfl, rfl, (wide_div hm (show m.natAbs < 2 ^ 140 by omega) (by decide) (by decide)), _, rfl, _, _, _, _, rfl, rfl, hB, rfl, ?_⟩
      refine ⟨_, rfl, q _ _ (Int.emod_nonneg _ (by omega)) (Int.emod_lt_of_pos _ hm) ⟨_, _, _, upd_same, Int.ediv_nonneg hx (by omega), hy, hy2, hz, by omega⟩ Ext.at⟩
    · have hz2 : (0 : Int) ≤ z + 1 ∧ z + 1 ≤ 1000001 := by omega
      refine ⟨_, rfl, _, _, _, _, rfl, rfl, .inl (.inl hB), rfl, .inl ⟨_, _, rfl, rfl, _, rfl, _, _, _, _, rfl, rfl, hB, rfl, ?_⟩⟩
      have hB1 : (upd H b (.lst ([V.int x, V.int y, V.int z].set 2 (.int (z + 1))))) b = some (.lst [.int x, .int y, .int (z + 1)]) := upd_same
      have n1 : (0 : Int) ≤ (y + 7919 * (z + 1) + 43) := by omega
      have n2 : (y + 7919 * (z + 1) + 43) < 18446744073709551616 := by omega
      refine ⟨_, rfl, _, _, _, _, rfl, rfl, .inl (.inl hB1), rfl, _, rfl, _, _, _, _, rfl, rfl, .inl (.inl hB1), rfl, _, _, rfl, rfl, .inl ⟨by decide, by decide⟩, .inl ⟨_, _, rfl, rfl, .inl ⟨_, _, rfl, rfl,
        _, _, rfl, rfl, ⟨by decide, by decide, ?_⟩, _, _, rfl, rfl, (by show (0 : Int) < 2147483647; decide), ?_⟩⟩⟩
      · show (y + 7919 * (z + 1) + 43).natAbs < 2 ^ 64
        omega
      · have p0 : (0 : Int) ≤ ((y + 7919 * (z + 1) + 43) ^ (5 : Int).toNat) % 2147483647 := Int.emod_nonneg _ (by decide)
        have p1 : ((y + 7919 * (z + 1) + 43) ^ (5 : Int).toNat) % 2147483647 < 2147483647 := Int.emod_lt_of_pos _ (by decide)
        have e1 : ∀ g : Int, 0 ≤ g → g < 2147483647 → (g + 104729 * (z + 1)).natAbs < 2 ^ 64 := by
          intro g h0 h1
          omega
        refine ⟨_, rfl, _, rfl, _, _, _, _, rfl, rfl, .inl (.inl hB1), rfl, _, _, rfl, rfl, .inl ⟨by decide, by decide⟩, .inl ⟨_, _, rfl, rfl, _, _, rfl, rfl, ⟨by decide, by decide, e1 _ p0 p1⟩, _, _, rfl, rfl, (by show (0 : Int) < 2147483587; decide), ?_⟩⟩
        refine ⟨_, rfl, _, _, rfl, rfl, ⟨by decide, by decide⟩, _, rfl, _, _, rfl, rfl, hm, ?_⟩
        exact q _ _ (Int.emod_nonneg _ (by omega)) (Int.emod_lt_of_pos _ hm) ⟨_, _, _, hB1, hx, hy, hy2, hz2.1, by omega⟩ Ext.at

end
end Pk

set_option Elab.async false
set_option linter.all false
set_option maxRecDepth 100000
set_option maxHeartbeats 4000000
namespace Pk
open PySem PySem.Spec PyProof.Rows L2 Pu
/-! ### plans as data -/
structure PlanD where
  evs : List Str
  ties : List (Str × Str × Int)
  caps : List (Str × Int)
structure EvsOk (es : List Str) : Prop where
  lo : 1 ≤ es.length
  hi : es.length ≤ 8
  nm : ∀ e ∈ es, nameOk e = true
  nd : es.Nodup
structure PlanOk (d : PlanD) : Prop where
  evs : EvsOk d.evs
  tl : d.ties.length ≤ 60
  tin : ∀ t ∈ d.ties, t.1 ∈ d.evs ∧ t.2.1 ∈ d.evs ∧ 0 ≤ t.2.2
  cin : ∀ c ∈ d.caps, c.1 ∈ d.evs ∧ 0 ≤ c.2
  cnd : (d.caps.map (·.1)).Nodup
  up : ∃ ρ : Str → Nat, ∀ t ∈ d.ties, t.2.2 = 0 → ρ t.1 < ρ t.2.1
/-- the row of a tie -/
abbrev rowV (t : Str × Str × Int) : List V := [.str t.1, .str t.2.1, .int t.2.2]
def TiesAt (H : Hp) (ts : List Addr) (ties : List (Str × Str × Int)) : Prop := Paired (fun a t => H a = some (.tup (rowV t))) ts ties
def capsV (cs : List (Str × Int)) : List (Key × V) := cs.map fun c => (.inr c.1, .int c.2)
theorem TiesAt.same {H H' : Hp} {ts : List Addr} {ties : List (Str × Str × Int)} (h : TiesAt H ts ties) (s : Same H H') : TiesAt H' ts ties := by
  unfold TiesAt at *
  induction h with
  | nil => exact .nil
  | cons r _ ih => exact .cons (s _ _ r) ih
theorem TiesAt.get {H : Hp} {ts : List Addr} {ties : List (Str × Str × Int)} (h : TiesAt H ts ties) : ∀ {i : Nat} {x : V}, (ts.map V.ref)[i]? = some x → ∃ a t, x = .ref a ∧ t ∈ ties ∧ ties[i]? = some t ∧ H a = some (.tup (rowV t)) := by
  unfold TiesAt at h
  induction h with
  | nil => intro i x e; simp at e
  | @cons a t as bs r _ ih =>
    intro i x e
    cases i with
    | zero =>
      have e : some (V.ref a) = some x := e
      cases e
      exact ⟨a, t, rfl, List.mem_cons_self .., rfl, r⟩
    | succ i =>
      obtain ⟨a', t', h1, h2, h3, h4⟩ := ih (i := i) (x := x) e
      exact ⟨a', t', h1, List.mem_cons_of_mem _ h2, h3, h4⟩
theorem TiesAt.length {H : Hp} {ts : List Addr} {ties : List (Str × Str × Int)} (h : TiesAt H ts ties) : ts.length = ties.length := Paired.length h
theorem flat_strs (es : List Str) : (es.map V.str).all flatV = true := by
  rw [List.all_map, List.all_eq_true]
  intro _ _
  rfl
theorem inV_strs (e : Str) (es : List Str) : inV (.str e) (es.map V.str) = decide (e ∈ es) := by
  unfold inV
  rw [List.any_map, Bool.eq_iff_iff, List.any_eq_true, decide_eq_true_iff]
  constructor
  · rintro ⟨y, hy, h⟩
    have h : (y == e) = true := h
    rw [beq_iff_eq] at h
    exact h ▸ hy
  · intro h
    exact ⟨e, h, (show (e == e) = true from beq_self_eq_true _)⟩
abbrev s_need_events : Stmt := topS 35
theorem sc_need_events : FnScope ["events", "index", "event"] ["events"] (defScope s_need_events) := ⟨rfl, rfl, rfl, by decide +kernel, rfl, by decide +kernel, by decide +kernel⟩
abbrev s_need_event : Stmt := topS 36
theorem sc_need_event : FnScope ["events", "event"] ["events", "event"] (defScope s_need_event) := ⟨rfl, rfl, rfl, by decide +kernel, rfl, by decide +kernel, by decide +kernel⟩
abbrev s_need_tie : Stmt := topS 37
theorem sc_need_tie : FnScope ["events", "tie", "earlier", "later", "lag"] ["events", "tie"] (defScope s_need_tie) := ⟨rfl, rfl, rfl, by decide +kernel, rfl, by decide +kernel, by decide +kernel⟩
abbrev s_need_ties : Stmt := topS 38
theorem sc_need_ties : FnScope ["events", "ties", "tie"] ["events", "ties"] (defScope s_need_ties) := ⟨rfl, rfl, rfl, by decide +kernel, rfl, by decide +kernel, by decide +kernel⟩
abbrev s_need_limits : Stmt := topS 39
theorem sc_need_limits : FnScope ["events", "limits", "event"] ["events", "limits"] (defScope s_need_limits) := ⟨rfl, rfl, rfl, by decide +kernel, rfl, by decide +kernel, by decide +kernel⟩
abbrev s_ringed : Stmt := topS 40
theorem sc_ringed : FnScope ["events", "ties", "reached", "middle", "first", "before", "last", "beyond", "earlier", "later", "lag", "event"] ["events", "ties"] (defScope s_ringed) := ⟨rfl, rfl, rfl, by decide +kernel, rfl, by decide +kernel, by decide +kernel⟩

section
variable {P : Program} {w : World} {K : PySem.W.Frag} {mg : Str → Option Value} {base : Heap}
/-! ### events that are right -/
theorem ty_sql {H : Hp} {a : Addr} {xs : List V} (h : SqL K H a xs) : TyX K H (.ref a) (.type "list") := by
  rcases h with (h | ⟨o, h⟩) | ⟨o, its, n, h, hc, _⟩
  · exact .base (.lst h)
  · exact .base (.frz h)
  · exact .kList h hc
theorem ty_sqt {H : Hp} {a : Addr} {xs : List V} (h : SqT K H a xs) : TyX K H (.ref a) (.type "tuple") := by
  rcases h with (h | ⟨o, h⟩) | ⟨o, its, n, h, hc, _⟩
  · exact .base (.tup h)
  · exact .fTuple h
  · exact .kTuple h hc
theorem kit2 {t c d : String} (b : Bool) (ht : t ∈ kinds) (hc : c ∈ clss) (hd : d ∈ clss) (e : (isk t c || isk t d) = b) : PySem.W.kitAny K (.type t) [.type c, .type d] = some b := by
  subst e
  unfold PySem.W.kitAny
  rw [kitx ht hc]
  cases h1 : isk t c with
  | true => rfl
  | false =>
    show PySem.W.kitAny K (.type t) [.type d] = _
    unfold PySem.W.kitAny
    rw [kitx ht hd]
    cases h2 : isk t d with
    | true => rfl
    | false => rfl
/-- a list or a tuple: its kind -/
theorem ty_sq {H : Hp} {a : Addr} {xs : List V} (h : Sq K H a xs) : ∃ t : String, TyX K H (.ref a) (.type t) ∧ PySem.W.kitAny K (.type t) [.type "list", .type "tuple"] = some true := by
  rcases h with h | h
  · exact ⟨"list", ty_sql h, kit2 true (by decide) (by decide) (by decide) (by decide)⟩
  · exact ⟨"tuple", ty_sqt h, kit2 true (by decide) (by decide) (by decide) (by decide)⟩
theorem cut_to (es : List Str) (i : Nat) (hi : i ≤ es.length) : cutV (es.map V.str) none (some (i : Int)) = (es.take i).map V.str := by
  unfold cutV
  rw [HT.sIx_none, HT.sIx_nat, List.length_map, Nat.min_eq_left hi, List.drop_zero, Nat.sub_zero, List.map_take]
theorem nameOk_len {s : Str} (h : nameOk s = true) : 1 ≤ s.length ∧ s.length ≤ 8 := by
  by_cases hh : 1 ≤ s.length ∧ s.length ≤ 8
  · exact hh
  · rw [nameOk_not hh] at h
    cases h
def spEvents (K : PySem.W.Frag) : Sp := fun vs H Q _ => ∃ (a : Addr) (es : List Str), vs = [.ref a] ∧ Sq K H a (es.map V.str) ∧ EvsOk es ∧ ∀ H', Same H H' → Q .non H'
theorem ok_need_events {f : Addr} {fd : FuncData} (F : Fun K "need_events" "need_events" s_need_events f fd) (T : Txt mg) (cis_name : Cal P w K mg base 1 "is_name" (spIsName K) []) : FnOk P w K mg base CX0 2 f fd ["events"] (spEvents K) := by
  have nd := sc_need_events.nd
  refine F.ok sc_need_events (fun vs H Q E h => ?_) (fun cdv A outer s H vs Q E hr h => ?_)
  · obtain ⟨_, _, rfl, _⟩ := h
    rfl
  · obtain ⟨a, es, rfl, hq, ho, q⟩ := h
    refine ⟨_, (pss_cons (ps_if (PW.pt (pw_or (pt_not (pt_val (pe_callB (isiTK K) (by rfl) T.m_isinstance PyProof.Rows.boot_isinstance (pa_cons (pv 0) (pa_cons (pe_tup (pa_cons (pe_bltn (v := .ty "list") rfl T.m_list PyProof.Rows.boot_list rfl) (pa_cons (pe_bltn (v := .ty "tuple") rfl T.m_tuple PyProof.Rows.boot_tuple rfl) pa_nil))) pa_nil))))) (pw_or1 (pt_not (pt_chain op_le op_le pe_int (pe_callB (lenK K) (by rfl) T.m_len PySem.boot_len (pa_cons (pv 0) pa_nil)) (pe_gi rfl T.m_MOST_EVENTS))))))
      (pss_one ps_no) pss_nil)
      (pss_one (ps_for PassesOwn.never rfl (pi_enumS K rfl T.m_enumerate (pa_cons (pv 0) pa_nil)) (pg_tup rfl (pgs_cons (pg_name (i := 1) nd rfl (Or.inl rfl)) (pgs_cons (pg_name (i := 2) nd rfl (Or.inl rfl)) pgs_nil)))
      (pss_cons (ps_if (pt_not (pt_val (pe_c cis_name hr (by decide) rfl (pa_cons (pv 2) pa_nil))))
      (pss_one ps_no) pss_nil)
      (pss_one (ps_if (pt_cmpR (oIn K) (pv 2) (pe_slice (slSeq K) (pv 0) po_none (po_some (pv 1))) (by rfl))
      (pss_one ps_no) pss_nil)))))), ?_⟩
    refine ⟨_, rfl, sz 2, fun T0 n0 => ?_⟩
    have s0 : Same H (upd H T0 (.tup [.ty "list", .ty "tuple"])) := same_upd n0
    have hT : (upd H T0 (.tup [.ty "list", .ty "tuple"])) T0 = some (.tup [.ty "list", .ty "tuple"]) := upd_same
    revert s0 hT
    generalize upd H T0 (.tup [.ty "list", .ty "tuple"]) = H0
    intro s0 hT
    have hq0 := sq_same hq s0
    obtain ⟨t, hty, hk⟩ := ty_sq hq0
    have l1 := ho.lo
    have l2 := ho.hi
    refine ⟨_, T0, _, _, _, true, rfl, hT, .cons (.ty _) (.cons (.ty _) .nil), hty, hk, _, rfl, _, rfl, .inl ⟨a, _, rfl, hq0, _, _, rfl, rfl, _, rfl, ite2 (fun e1 => ⟨_, _, rfl, rfl, _, rfl, ite2 (fun e2 => ?_) (fun e2 => ?_)⟩) (fun e1 => ?_)⟩⟩
    · rw [List.length_map] at e2
      have e3 : ((es.length : Int) ≤ 8) := by omega
      rw [decide_eq_true e3] at e2
      exact absurd e2 (by decide)
    · refine for_enumS (fun i σ H' => Same H0 H' ∧ ∃ v1 v2, σ = [some (.ref a), v1, v2]) (fun Q hQ => ⟨_, rfl, hQ⟩) hq0 ⟨Same.refl _, _, _, rfl⟩ (fun _ _ _ _ p => p.1) (fun i x T1 σ H1 hx p n1 => ?_) (fun σ H1 p => q _ (Same.trans s0 p.1))
      obtain ⟨s1, v1, v2, rfl⟩ := p
      have hi : i < es.length := by
        rw [← List.length_map (f := V.str)]
        exact (List.getElem?_eq_some_iff.mp hx).1
      have hxe : x = .str es[i] := by
        rw [List.getElem?_map, List.getElem?_eq_getElem hi] at hx
        cases hx
        rfl
      subst hxe
      have s2 : Same H0 (upd H1 T1 (.tup [.int (i : Nat), .str es[i]])) := Same.trans s1 (same_upd n1)
      have hn := ho.nm es[i] (List.getElem_mem hi)
      refine ⟨T1, _, rfl, .inl (.inl upd_same), rfl, _, _, rfl, _, _, rfl, rfl, ?_⟩
      refine ⟨_, rfl, .inl ⟨es[i], rfl, by have := nameOk_len hn; omega, fun H2 s3 => ⟨_, rfl, ite2 (fun e => ?_) (fun _ => ?_)⟩⟩⟩
      · rw [hn] at e
        exact absurd e (by decide)
      have s4 := Same.trans s2 s3
      have fin : ∀ (y : V) (p : Addr), (Sq K (upd H2 p (.lst ((es.take i).map V.str))) p ((es.take i).map V.str)) := fun _ p => .inl (.inl (.inl upd_same))
      have hno : inV (.str es[i]) ((es.take i).map V.str) = false := by
        rw [inV_strs]
        refine decide_eq_false fun hm => ?_
        obtain ⟨j, hj, e⟩ := List.getElem_of_mem hm
        rw [List.getElem_take] at e
        have hj2 : j < i := by
          rw [List.length_take] at hj
          omega
        have := (List.getElem_inj (h₀ := by omega) (h₁ := hi) ho.nd).mp e
        omega
      refine ⟨_, rfl, _, rfl, ?_⟩
      have key : ∀ (H3 : Hp) (p : Addr), Same H2 H3 → Sq K H3 p (cutV (es.map V.str) none (some (i : Int))) → rIn K false (.str es[i]) (.ref p) H3 fun x H' => ∃ k, x = .bl k ∧ (if k = true then False else Same H0 H' ∧ ∃ v1 v2, [some (V.ref a), some (V.int (i : Nat)), some (V.str es[i])] = [some (.ref a), v1, v2]) := by
        intro H3 p s5 hs
        rw [cut_to es i (by omega)] at hs
        refine ⟨p, _, rfl, hs, rfl, flat_strs _, _, rfl, ?_⟩
        rw [hno]
        exact ⟨Same.trans s4 s5, _, _, rfl⟩
      rcases sq_same hq0 s4 with hl | ht
      · exact ⟨_, rfl, _, rfl, .inl ⟨a, _, rfl, hl, fun p np => .inr (key _ p (same_upd np) (.inl (.inl (.inl upd_same))))⟩⟩
      · refine ⟨_, rfl, _, rfl, .inr ⟨a, _, rfl, ht, ?_, fun p np => .inr (key _ p (same_upd np) (.inr (.inl (.inl upd_same))))⟩⟩
        rintro ⟨_, h2⟩
        rw [HT.sIx_nat, List.length_map] at h2
        omega
    · rw [List.length_map] at e1
      exact absurd (decide_eq_true (by omega)) e1
/-! ### ties that are right -/
def spEvent (K : PySem.W.Frag) : Sp := fun vs H Q _ => ∃ (a : Addr) (es : List Str) (e : Str), vs = [.ref a, .str e] ∧ Sq K H a (es.map V.str) ∧ e ∈ es ∧ Q .non H
theorem ok_need_event {f : Addr} {fd : FuncData} (F : Fun K "need_event" "need_event" s_need_event f fd) (T : Txt mg) : FnOk P w K mg base CX0 1 f fd ["events", "event"] (spEvent K) := by
  have nd := sc_need_event.nd
  refine F.ok sc_need_event (fun vs H Q E h => ?_) (fun cdv A outer s H vs Q E hr h => ?_)
  · obtain ⟨_, _, _, rfl, _⟩ := h
    rfl
  · obtain ⟨a, es, e, rfl, hq, he, q⟩ := h
    refine ⟨_, (pss_one (ps_if (pt_cmpR (oNotIn K) (pv 1) (pv 0) (by rfl))
      (pss_one ps_no) pss_nil)), ?_⟩
    refine ⟨_, rfl, _, rfl, .inr ⟨a, _, rfl, hq, rfl, flat_strs _, _, rfl, ?_⟩⟩
    rw [inV_strs, decide_eq_true he]
    exact q
def spTie (K : PySem.W.Frag) : Sp := fun vs H Q _ => ∃ (a b : Addr) (es : List Str) (t : Str × Str × Int), vs = [.ref a, .ref b] ∧ Sq K H a (es.map V.str) ∧ H b = some (.tup (rowV t)) ∧ t.1 ∈ es ∧ t.2.1 ∈ es ∧ 0 ≤ t.2.2 ∧ Q .non H
theorem ok_need_tie {f : Addr} {fd : FuncData} (F : Fun K "need_tie" "need_tie" s_need_tie f fd) (T : Txt mg) (cneed_event : Cal P w K mg base 1 "need_event" (spEvent K) []) (cis_count : Cal P w K mg base 2 "is_count" (spIsCount K) []) : FnOk P w K mg base CX0 3 f fd ["events", "tie"] (spTie K) := by
  have nd := sc_need_tie.nd
  refine F.ok sc_need_tie (fun vs H Q E h => ?_) (fun cdv A outer s H vs Q E hr h => ?_)
  · obtain ⟨_, _, _, _, rfl, _⟩ := h
    rfl
  · obtain ⟨a, b, es, ⟨x, y, n⟩, rfl, hq, hb, hx, hy, hn, q⟩ := h
    have hb1 : SqT K H b [.str x, .str y, .int n] := .inl (.inl hb)
    refine ⟨_, (pss_cons (ps_if (PW.pt (pw_or (pt_not (pt_val (pe_callB (isiK K) (by rfl) T.m_isinstance PyProof.Rows.boot_isinstance (pa_cons (pv 1) (pa_cons (pe_bltn (v := .ty "tuple") rfl T.m_tuple PyProof.Rows.boot_tuple rfl) pa_nil))))) (pw_or1 (pt_cmpR op_ne (pe_callB (lenK K) (by rfl) T.m_len PySem.boot_len (pa_cons (pv 1) pa_nil)) pe_int (by rfl)))))
      (pss_one ps_no) pss_nil)
      (pss_cons (ps_asg (pv 1) (pg_tup rfl (pgs_cons (pg_name (i := 2) nd rfl (Or.inl rfl)) (pgs_cons (pg_name (i := 3) nd rfl (Or.inl rfl)) (pgs_cons (pg_name (i := 4) nd rfl (Or.inl rfl)) pgs_nil)))))
      (pss_cons (ps_expr (pe_c cneed_event hr (by decide) rfl (pa_cons (pv 0) (pa_cons (pv 2) pa_nil))))
      (pss_cons (ps_expr (pe_c cneed_event hr (by decide) rfl (pa_cons (pv 0) (pa_cons (pv 3) pa_nil))))
      (pss_one (ps_if (pt_not (pt_val (pe_c cis_count hr (by decide) rfl (pa_cons (pv 4) pa_nil))))
      (pss_one ps_no) pss_nil)))))), ?_⟩
    refine ⟨_, rfl, _, _, _, _, _, rfl, .ty _, ty_sqt hb1, kity true (by decide) (by decide) rfl, _, rfl, _, rfl, .inl ⟨b, _, rfl, .inr hb1, rfl, _, rfl, ?_⟩⟩
    refine ⟨_, rfl, b, _, rfl, hb1, rfl, _, _, rfl, _, _, rfl, _, _, rfl, rfl, ?_⟩
    refine ⟨_, rfl, _, rfl, a, es, x, rfl, hq, hx, ?_⟩
    refine ⟨_, rfl, _, rfl, a, es, y, rfl, hq, hy, ?_⟩
    refine ⟨_, rfl, .inl ⟨n, rfl, _, rfl, ?_⟩⟩
    rw [decide_eq_true hn]
    exact q
def spTies (K : PySem.W.Frag) : Sp := fun vs H Q _ => ∃ (a b : Addr) (es : List Str) (ts : List Addr) (ties : List (Str × Str × Int)), vs = [.ref a, .ref b] ∧ Sq K H a (es.map V.str) ∧ Sq K H b (ts.map V.ref) ∧ TiesAt H ts ties ∧ ties.length ≤ 60 ∧
  (∀ t ∈ ties, t.1 ∈ es ∧ t.2.1 ∈ es ∧ 0 ≤ t.2.2) ∧ ∀ H', Same H H' → Q .non H'
theorem ok_need_ties {f : Addr} {fd : FuncData} (F : Fun K "need_ties" "need_ties" s_need_ties f fd) (T : Txt mg) (cneed_tie : Cal P w K mg base 3 "need_tie" (spTie K) []) : FnOk P w K mg base CX0 4 f fd ["events", "ties"] (spTies K) := by
  have nd := sc_need_ties.nd
  refine F.ok sc_need_ties (fun vs H Q E h => ?_) (fun cdv A outer s H vs Q E hr h => ?_)
  · obtain ⟨_, _, _, _, _, rfl, _⟩ := h
    rfl
  · obtain ⟨a, b, es, ts, ties, rfl, hq, hb, ht, hl, hin, q⟩ := h
    refine ⟨_, (pss_cons (ps_if (PW.pt (pw_or (pt_not (pt_val (pe_callB (isiTK K) (by rfl) T.m_isinstance PyProof.Rows.boot_isinstance (pa_cons (pv 1) (pa_cons (pe_tup (pa_cons (pe_bltn (v := .ty "list") rfl T.m_list PyProof.Rows.boot_list rfl) (pa_cons (pe_bltn (v := .ty "tuple") rfl T.m_tuple PyProof.Rows.boot_tuple rfl) pa_nil))) pa_nil))))) (pw_or1 (pt_cmpR op_gt (pe_callB (lenK K) (by rfl) T.m_len PySem.boot_len (pa_cons (pv 1) pa_nil)) (pe_gi rfl T.m_MOST_TIES) (by rfl)))))
      (pss_one ps_no) pss_nil)
      (pss_one (ps_for PassesOwn.never rfl (pi_seq K (pv 1)) (pg_name (i := 2) nd rfl (Or.inl rfl))
      (pss_one (ps_expr (pe_c cneed_tie hr (by decide) rfl (pa_cons (pv 0) (pa_cons (pv 2) pa_nil)))))))), ?_⟩
    refine ⟨_, rfl, sz 2, fun T0 n0 => ?_⟩
    have s0 : Same H (upd H T0 (.tup [.ty "list", .ty "tuple"])) := same_upd n0
    have hT : (upd H T0 (.tup [.ty "list", .ty "tuple"])) T0 = some (.tup [.ty "list", .ty "tuple"]) := upd_same
    revert s0 hT
    generalize upd H T0 (.tup [.ty "list", .ty "tuple"]) = H0
    intro s0 hT
    obtain ⟨t, hty, hk⟩ := ty_sq (sq_same hb s0)
    refine ⟨_, T0, _, _, _, true, rfl, hT, .cons (.ty _) (.cons (.ty _) .nil), hty, hk, _, rfl, _, rfl, .inl ⟨b, _, rfl, sq_same hb s0, _, _, rfl, rfl, _, rfl, ite2 (fun e1 => ?_) (fun e1 => ?_)⟩⟩
    · have e2 := of_decide_eq_true e1
      rw [List.length_map, ht.length] at e2
      omega
    · refine for_seq (fun i σ H' => Same H0 H' ∧ ∃ v1, σ = [some (.ref a), some (.ref b), v1]) (fun Q hQ => ⟨_, rfl, hQ⟩) (sq_same hb s0) ⟨Same.refl _, _, rfl⟩ (fun _ _ _ _ p => p.1) (fun i x σ H1 hx p => ?_) (fun σ H1 p => q _ (Same.trans s0 p.1))
      obtain ⟨s1, v1, rfl⟩ := p
      have s2 := Same.trans s0 s1
      obtain ⟨c, t, rfl, hm, _, hc⟩ := (ht.same s2).get hx
      obtain ⟨i1, i2, i3⟩ := hin t hm
      exact ⟨_, rfl, _, rfl, a, c, es, t, rfl, sq_same hq s2, hc, i1, i2, i3, s1, _, rfl⟩
/-! ### limits that are right -/
def LimsAt (H : Hp) (l : V) (cs : List (Str × Int)) : Prop := (l = .non ∧ cs = []) ∨ ∃ c, l = .ref c ∧ H c = some (.dK (capsV cs))
theorem capsV_get {cs : List (Str × Int)} {i : Nat} {k : Key} {v : V} (h : (capsV cs)[i]? = some (k, v)) : ∃ c, cs[i]? = some c ∧ c ∈ cs ∧ k = .inr c.1 ∧ v = .int c.2 := by
  unfold capsV at h
  rw [List.getElem?_map] at h
  cases e : cs[i]? with
  | none => rw [e] at h; cases h
  | some c =>
    rw [e] at h
    cases h
    exact ⟨c, rfl, List.mem_of_getElem? e, rfl, rfl⟩
theorem valV_mem {cs : List (Str × Int)} (h : (cs.map (·.1)).Nodup) {c : Str × Int} (hc : c ∈ cs) : valV (capsV cs) (.inr c.1) = some (.int c.2) := by
  induction cs with
  | nil => cases hc
  | cons d r ih =>
    rw [List.map_cons, List.nodup_cons] at h
    show Option.map (·.2) (List.find? _ ((.inr d.1, .int d.2) :: capsV r)) = _
    rw [List.find?_cons]
    rcases List.mem_cons.mp hc with e | e
    · subst e
      rw [decide_eq_true rfl]
      rfl
    · have hne : d.1 ≠ c.1 := fun q => h.1 (q ▸ List.mem_map_of_mem e)
      rw [decide_eq_false (fun q : (Sum.inr d.1 : Key) = .inr c.1 => hne (Sum.inr.inj q))]
      exact ih h.2 e
theorem sq_lock {K : PySem.W.Frag} {H : Hp} {a c : Addr} {xs : List V} {kvs : List (Key × V)} {o : HO} (h : Sq K H a xs) (hc : H c = some (.dK kvs)) : Sq K (upd H c o) a xs := by
  rcases h with ((h | ⟨u, h⟩) | h) | ((h | ⟨u, h⟩) | h)
  · exact .inl (.inl (.inl (by rw [upd_ne (ne_of h hc (fun z => nomatch z))]; exact h)))
  · exact .inl (.inl (.inr ⟨u, by rw [upd_ne (ne_of h hc (fun z => nomatch z))]; exact h⟩))
  · exact .inl (.inr h)
  · exact .inr (.inl (.inl (by rw [upd_ne (ne_of h hc (fun z => nomatch z))]; exact h)))
  · exact .inr (.inl (.inr ⟨u, by rw [upd_ne (ne_of h hc (fun z => nomatch z))]; exact h⟩))
  · exact .inr (.inr h)
def spLimits (K : PySem.W.Frag) : Sp := fun vs H Q _ => ∃ (a : Addr) (es : List Str) (l : V) (cs : List (Str × Int)), vs = [.ref a, l] ∧ Sq K H a (es.map V.str) ∧ LimsAt H l cs ∧ (cs.map (·.1)).Nodup ∧ (∀ c ∈ cs, c.1 ∈ es ∧ 0 ≤ c.2) ∧ ∀ H', Same H H' → Q .non H'
theorem ok_need_limits {f : Addr} {fd : FuncData} (F : Fun K "need_limits" "need_limits" s_need_limits f fd) (T : Txt mg) (cis_count : Cal P w K mg base 2 "is_count" (spIsCount K) []) : FnOk P w K mg base CX0 3 f fd ["events", "limits"] (spLimits K) := by
  have nd := sc_need_limits.nd
  refine F.ok sc_need_limits (fun vs H Q E h => ?_) (fun cdv A outer s H vs Q E hr h => ?_)
  · obtain ⟨_, _, _, _, rfl, _⟩ := h
    rfl
  · obtain ⟨a, es, l, cs, rfl, hq, hl, hnd, hin, q⟩ := h
    have hu : (A.deeper (envOfC "need_limits" (defScope s_need_limits) s.heap.objs.size f cdv)).units + 1 < cLine := by
      have := hr.units
      omega
    refine ⟨_, (pss_cons (ps_if (pt_cmpR op_isN (pv 1) pe_non (by rfl))
      (pss_one ps_retN) pss_nil)
      (pss_cons (ps_if (pt_not (pt_val (pe_callB (isiK K) (by rfl) T.m_isinstance PyProof.Rows.boot_isinstance (pa_cons (pv 1) (pa_cons (pe_bltn (v := .ty "dict") rfl T.m_dict PyProof.Rows.boot_dict rfl) pa_nil)))))
      (pss_one ps_no) pss_nil)
      (pss_one (ps_lock (ps_for PassesOwn.never rfl (pi_keys (pv 1)) (pg_name (i := 2) nd rfl (Or.inl rfl))
      (pss_one (ps_if (PW.pt (pw_or (pt_cmpR (oNotIn K) (pv 2) (pv 0) (by rfl)) (pw_or1 (pt_not (pt_val (pe_c cis_count hr (by decide) rfl (pa_cons (pe_dget hu (pv 1) (pv 2) (fun _ _ => rfl)) pa_nil)))))))
      (pss_one ps_no) pss_nil))))))), ?_⟩
    rcases hl with ⟨rfl, rfl⟩ | ⟨c, rfl, hc⟩
    · exact ⟨_, rfl, rfl, _, rfl, q _ (Same.refl _)⟩
    refine ⟨_, rfl, rfl, _, rfl, ite2 (fun e => nomatch of_decide_eq_true e) (fun _ => ?_)⟩
    refine ⟨_, rfl, _, _, _, _, _, rfl, .ty _, .base (.dK hc), kity true (by decide) (by decide) rfl, _, rfl, ?_⟩
    refine ⟨c, _, hc, trivial, fun od => ?_⟩
    have hq2 : Sq K (upd H c (.frz od (.dK (capsV cs)))) a (es.map V.str) := sq_lock hq hc
    have hc2 : (upd H c (.frz od (.dK (capsV cs)))) c = some (.frz od (.dK (capsV cs))) := upd_same
    have back : Same H (upd (upd H c (.frz od (.dK (capsV cs)))) c (.dK (capsV cs))) := fun b o hb => by
      by_cases e : b = c
      · subst e
        rw [hc] at hb
        cases hb
        exact upd_same
      · rw [upd_ne e, upd_ne e]
        exact hb
    refine ⟨_, rfl, c, od, rfl, .inl ⟨capsV cs, hc2, for_it walk_keys (fun i σ H' => H' = upd H c (.frz od (.dK (capsV cs))) ∧ ∃ v, σ = [some (.ref a), some (.ref c), v]) ⟨rfl, _, rfl⟩ (fun i σ H' _ p => p.1 ▸ hc2) (fun i x σ H1 H2 hi p y => ?_) (fun σ H1 p => ?_)⟩⟩
    · obtain ⟨rfl, v, rfl⟩ := p
      obtain ⟨rfl, k, u, hk, rfl⟩ := y
      obtain ⟨d, _, hd, rfl, rfl⟩ := capsV_get hk
      obtain ⟨i1, i2⟩ := hin d hd
      refine ⟨_, rfl, _, rfl, .inr ⟨a, _, rfl, hq2, rfl, flat_strs _, _, rfl, ?_⟩⟩
      show if (!(inV (.str d.1) (es.map V.str))) = true then _ else _
      rw [inV_strs, decide_eq_true i1]
      refine ⟨_, rfl, _, rfl, c, _, rfl, .inl ⟨_, .inr d.1, .inr ⟨od, hc2⟩, rfl, (valV_mem hnd hd).symm⟩, .inl ⟨d.2, rfl, _, rfl, ?_⟩⟩
      rw [decide_eq_true i2]
      exact ⟨rfl, _, rfl⟩
    · obtain ⟨rfl, v, rfl⟩ := p
      exact ⟨hc2, q _ back⟩
/-! ### no ring -/
def UpK (ρ : Str → Nat) (kvs : List (List Key × V)) : Prop := ∀ p ∈ kvs, ∃ x y : Str, p.1 = [.inr x, .inr y] ∧ ρ x < ρ y
theorem valV_some {kvs : List (List Key × V)} {k : List Key} (h : (valV kvs k).isSome = true) : ∃ p ∈ kvs, p.1 = k := by
  unfold valV at h
  rw [Option.isSome_map] at h
  obtain ⟨p, hp⟩ := Option.isSome_iff_exists.mp h
  have h2 : decide (p.1 = k) = true := List.find?_some (p := fun kv : List Key × V => decide (kv.1 = k)) hp
  exact ⟨p, List.mem_of_find?_eq_some hp, of_decide_eq_true h2⟩
theorem UpK.nil {ρ : Str → Nat} : UpK ρ [] := fun p hp => by cases hp
theorem UpK.put {ρ : Str → Nat} {kvs : List (List Key × V)} {x y : Str} {v : V} (h : UpK ρ kvs) (hxy : ρ x < ρ y) : UpK ρ (putK kvs [.inr x, .inr y] v) := by
  intro p hp
  unfold putK at hp
  split at hp
  · obtain ⟨q, hq, e⟩ := List.mem_map.mp hp
    by_cases z : q.1 = [.inr x, .inr y]
    · rw [if_pos z] at e
      subst e
      exact ⟨x, y, z, hxy⟩
    · rw [if_neg z] at e
      subst e
      exact h q hq
  · rcases List.mem_append.mp hp with hp | hp
    · exact h p hp
    · rw [List.mem_singleton] at hp
      subst hp
      exact ⟨x, y, rfl, hxy⟩
theorem UpK.get {ρ : Str → Nat} {kvs : List (List Key × V)} {x y : Str} (h : UpK ρ kvs) (hv : (valV kvs [.inr x, .inr y]).isSome = true) : ρ x < ρ y := by
  obtain ⟨p, hp, e⟩ := valV_some hv
  obtain ⟨x', y', e', hl⟩ := h p hp
  rw [e] at e'
  cases e'
  exact hl
/-- the dict of what is reached, at D -/
def Rst (ρ : Str → Nat) (D : Addr) (n : Nat) (H H' : Hp) : Prop := Ext D H H' ∧ ∃ kvs, H' D = some (.dT kvs) ∧ UpK ρ kvs ∧ kvs.length ≤ n
theorem Rst.new {ρ : Str → Nat} {D : Addr} {n : Nat} {H H' : Hp} {p : Addr} {o : HO} (h : Rst ρ D n H H') (np : H' p = none) : Rst ρ D n H (upd H' p o) := by
  obtain ⟨e, kvs, hD, u, l⟩ := h
  exact ⟨e.trans (Ext.new np), kvs, by rw [upd_ne (ne_of_none hD np)]; exact hD, u, l⟩
theorem Rst.put {ρ : Str → Nat} {D : Addr} {n : Nat} {H H' : Hp} {kvs : List (List Key × V)} {x y : Str} {v : V} (h : Rst ρ D n H H') (hD : H' D = some (.dT kvs)) (hxy : ρ x < ρ y) : Rst ρ D (n + 1) H (upd H' D (.dT (putK kvs [.inr x, .inr y] v))) := by
  obtain ⟨e, kvs', hD', u, l⟩ := h
  rw [hD] at hD'
  cases hD'
  exact ⟨e.trans Ext.at, _, upd_same, u.put hxy, by have := length_putK kvs [.inr x, .inr y] v; omega⟩
theorem Rst.mono {ρ : Str → Nat} {D : Addr} {n m : Nat} {H H' : Hp} (h : Rst ρ D n H H') (l : n ≤ m) : Rst ρ D m H H' := by
  obtain ⟨e, kvs, hD, u, z⟩ := h
  exact ⟨e, kvs, hD, u, Nat.le_trans z l⟩
theorem sq_ne {H : Hp} {a D : Addr} {xs : List V} (h : Sq K H a xs) (hD : H D = none) : ∀ o, H a = some o → a ≠ D := fun o e => ne_of_none e hD
theorem atE {D a : Addr} {H H' : Hp} (hD : H D = none) (e : Ext D H H') : ∀ o, H a = some o → H' a = some o := fun o h => e a o (ne_of_none h hD) h
def spRinged (K : PySem.W.Frag) : Sp := fun vs H Q _ => ∃ (a b : Addr) (es : List Str) (ts : List Addr) (ties : List (Str × Str × Int)) (ρ : Str → Nat), vs = [.ref a, .ref b] ∧ Sq K H a (es.map V.str) ∧ Sq K H b (ts.map V.ref) ∧ TiesAt H ts ties ∧ es.length ≤ 8 ∧ ties.length ≤ 60 ∧
  (∀ t ∈ ties, t.2.2 = 0 → ρ t.1 < ρ t.2.1) ∧ ∀ p H', Same H H' → H' p = some (.lst []) → Q (.ref p) H'
theorem ok_ringed {f : Addr} {fd : FuncData} (F : Fun K "ringed" "ringed" s_ringed f fd) (T : Txt mg) : FnOk P w K mg base CX0 1 f fd ["events", "ties"] (spRinged K) := by
  have nd := sc_ringed.nd
  refine F.ok sc_ringed (fun vs H Q E h => ?_) (fun cdv A outer s H vs Q E hr h => ?_)
  · obtain ⟨_, _, _, _, _, _, rfl, _⟩ := h
    rfl
  · obtain ⟨a, b, es, ts, ties, ρ, rfl, hq, hb, ht, le, lt, hρ, q⟩ := h
    have hu : (A.deeper (envOfC "ringed" (defScope s_ringed) s.heap.objs.size f cdv)).units + 1 < cLine := by
      have := hr.units
      omega
    refine ⟨_, (pss_cons (ps_set (i := 2) nd rfl (Or.inr rfl) (pe_dcT hu (own := [("earlier", 8), ("later", 9), ("lag", 10)]) (g := (gTup K 3 (gCons (gName 8) (gCons (gName 9) (gCons (gName 10) gNil))))) rfl nd (pi_seq K (pv 1)) (blkOk_by (N := ["events", "ties", "reached", "middle", "first", "before", "last", "beyond", "earlier", "later", "lag", "event"]) (sc := defScope s_ringed) (by decide +kernel)) (fun _ _ _ _ _ => (pg_tup rfl (pgs_cons (pg_name (i := 8) nd rfl (Or.inl rfl)) (pgs_cons (pg_name (i := 9) nd rfl (Or.inl rfl)) (pgs_cons (pg_name (i := 10) nd rfl (Or.inl rfl)) pgs_nil))))) (fun _ _ _ _ _ => pts_one (pt_cmpR op_eq (pv 10) pe_int (by rfl))) (fun _ _ _ _ _ => (pe_tup (pa_cons (pv 8) (pa_cons (pv 9) pa_nil)))) (fun _ _ _ _ _ => pe_bl)))
      (pss_cons (ps_for PassesOwn.never rfl (pi_seq K (pv 0)) (pg_name (i := 3) nd rfl (Or.inr rfl))
      (pss_cons (ps_setLc (i := 5) (y := "before") (own := [("first", 4)]) (g := gName 4) rfl nd rfl rfl (sw_true rfl rfl rfl (by decide +kernel)) (pi_seq K (pv 0)) (blkOk_by (N := ["events", "ties", "reached", "middle", "first", "before", "last", "beyond", "earlier", "later", "lag", "event"]) (sc := defScope s_ringed) (by decide +kernel)) (fun _ _ _ _ _ => pg_name (i := 4) nd rfl (Or.inl rfl)) (fun _ _ _ _ _ => pts_one (pt_cmp (pc_din hu (pe_tup (pa_cons (pv 4) (pa_cons (pv 3) pa_nil))) (pv 2)) (by rfl))) (fun _ _ _ _ _ => (pv 4)))
      (pss_cons (ps_setLc (i := 7) (y := "beyond") (own := [("last", 6)]) (g := gName 6) rfl nd rfl rfl (sw_true rfl rfl rfl (by decide +kernel)) (pi_seq K (pv 0)) (blkOk_by (N := ["events", "ties", "reached", "middle", "first", "before", "last", "beyond", "earlier", "later", "lag", "event"]) (sc := defScope s_ringed) (by decide +kernel)) (fun _ _ _ _ _ => pg_name (i := 6) nd rfl (Or.inl rfl)) (fun _ _ _ _ _ => pts_one (pt_cmp (pc_din hu (pe_tup (pa_cons (pv 3) (pa_cons (pv 6) pa_nil))) (pv 2)) (by rfl))) (fun _ _ _ _ _ => (pv 6)))
      (pss_one (ps_for PassesOwn.never rfl (pi_seq K (pv 5)) (pg_name (i := 4) nd rfl (Or.inl rfl))
      (pss_one (ps_for PassesOwn.never rfl (pi_seq K (pv 7)) (pg_name (i := 6) nd rfl (Or.inl rfl))
      (pss_one (ps_dput hu (pv 2) (pe_tup (pa_cons (pv 4) (pa_cons (pv 6) pa_nil))) pe_bl rfl)))))))))
      (pss_one (ps_ret (pe_lc (own := [("event", 11)]) (g := gName 11) rfl nd (pi_seq K (pv 0)) (blkOk_by (N := ["events", "ties", "reached", "middle", "first", "before", "last", "beyond", "earlier", "later", "lag", "event"]) (sc := defScope s_ringed) (by decide +kernel)) (fun _ _ _ _ _ => pg_name (i := 11) nd rfl (Or.inl rfl)) (fun _ _ _ _ _ => pts_one (pt_cmp (pc_din hu (pe_tup (pa_cons (pv 11) (pa_cons (pv 11) pa_nil))) (pv 2)) (by rfl))) (fun _ _ _ _ _ => (pv 11))))))), ?_⟩
    refine seq_asg ?_
    refine dcT_seq (H0 := H) (fun D i H' => Rst ρ D i H H') (fun Q hQ => ⟨_, rfl, hQ⟩) hb (fun _ h => h) (fun D hD => ⟨Ext.new hD, [], upd_same, UpK.nil, Nat.le_refl _⟩) (fun D hD i H' _ p => atE hD p.1) (fun D hD i x H1 hx p => ?_) (fun D hD H1 p1 => ?_)
    · obtain ⟨c, t, rfl, hm, _, hc⟩ := ht.get hx
      have hc1 := p.1 c _ (ne_of_none hc hD) hc
      have hi : i < 60 := by
        have := (List.getElem?_eq_some_iff.mp hx).1
        rw [List.length_map, ht.length] at this
        omega
      refine ⟨c, _, rfl, .inl (.inl hc1), rfl, _, _, rfl, _, _, rfl, _, _, rfl, rfl, rfl, _, rfl, rfl, _, rfl, ite2 (fun e => ?_) (fun _ => p.mono (Nat.le_succ _))⟩
      have e0 : t.2.2 = 0 := by simpa using e
      refine ⟨_, rfl, _, rfl, sz 2, fun T nT => ?_⟩
      have pT := p.new (o := .tup [.str t.1, .str t.2.1]) nT
      obtain ⟨_, kvs, hk, _, hl⟩ := id pT
      exact ⟨kvs, [.inr t.1, .inr t.2.1], T, rfl, upd_same, hk, Nat.lt_of_lt_of_le (by omega) (sz 100), pT.put hk (hρ t hm e0)⟩
    have l60 : Rst ρ D 60 H H1 := p1.mono (by rw [List.length_map, ht.length]; exact lt)
    clear p1
    have aH : ∀ n H', Rst ρ D n H H' → ∀ o, H a = some o → H' a = some o := fun n H' p => atE hD p.1
    have ev : ∀ {i : Nat} {x : V}, (es.map V.str)[i]? = some x → ∃ m, x = .str m := by
      intro i x hx
      rw [List.getElem?_map] at hx
      cases e : es[i]? with
      | none => rw [e] at hx; cases hx
      | some m => rw [e] at hx; cases hx; exact ⟨m, rfl⟩
    have el : ∀ {i : Nat} {x : V}, (es.map V.str)[i]? = some x → i < 8 := by
      intro i x hx
      have := (List.getElem?_eq_some_iff.mp hx).1
      rw [List.length_map] at this
      omega
    have fresh : ∀ {n : Nat} {H' : Hp} {L : Addr}, Rst ρ D n H H' → H' L = none → H L = none := fun {n H' L} p hL => by
      cases e : H L with
      | none => rfl
      | some o =>
        obtain ⟨e1, kvs, hk, _⟩ := p
        have := e1 L o (Ne.symm (ne_of_none hk hL)) e
        rw [hL] at this
        cases this
    have chg : ∀ {n : Nat} {H' : Hp} {L : Addr} {o : HO}, Rst ρ D n H H' → H L = none → L ≠ D → Rst ρ D n H (upd H' L o) := fun {n H' L o} p hL hne => by
      obtain ⟨e, kvs2, hk2, hu2, hl2⟩ := p
      exact ⟨e.mut hL, kvs2, by rw [upd_ne (Ne.symm hne)]; exact hk2, hu2, hl2⟩
    refine gname (seq_st (for_seqA (H0 := H) (fun i σ H' => Rst ρ D (60 + 64 * i) H H' ∧ ∃ v3 v4 v5 v6 v7, σ = [some (.ref a), some (.ref b), some (.ref D), v3, v4, v5, v6, v7, none, none, none, none]) (fun Q hQ => ⟨_, rfl, hQ⟩) hq ⟨l60, none, none, none, none, none, rfl⟩ (fun i _ H' _ p => aH _ _ p.1) (fun i x σ H2 hx p => ?_) (fun σ H2 p => ?_)))
    · obtain ⟨p, v3, v4, v5, v6, v7, rfl⟩ := p
      obtain ⟨m, rfl⟩ := ev hx
      have i8 := el hx
      refine gname ?_
      refine seq_asg ?_
      refine lc_seq (H0 := H) (fun L j H' => Rst ρ D (60 + 64 * i) H H' ∧ L ≠ D ∧ H L = none ∧ ∃ xs : List Str, H' L = some (.lst (xs.map V.str)) ∧ xs.length ≤ j ∧ ∀ x ∈ xs, ρ x < ρ m) (fun Q hQ => ⟨_, rfl, hQ⟩) hq (aH _ _ p) (fun L hL => ?_) (fun L hL j H' _ p => aH _ _ p.1) (fun L hL j x H' hx p => ?_) (fun B hB H3 p3 => ?_)
      · obtain ⟨_, kvs, hk, _⟩ := id p
        exact ⟨p.new hL, Ne.symm (ne_of_none hk hL), fresh p hL, [], upd_same, Nat.le_refl _, fun _ h => by cases h⟩
      · obtain ⟨p, hne, hLH, xs, hxs, hl, hup⟩ := p
        obtain ⟨f, rfl⟩ := ev hx
        have j8 := el hx
        refine ⟨rfl, _, rfl, _, rfl, sz 2, fun T nT => ?_⟩
        have pT := p.new (o := .tup [.str f, .str m]) nT
        have hLT : (upd H' T (.tup [.str f, .str m])) L = some (.lst (xs.map V.str)) := by
          rw [upd_ne (ne_of_none hxs nT)]
          exact hxs
        obtain ⟨_, kvs, hk, hu1, _⟩ := id pT
        refine ⟨_, rfl, D, _, rfl, .inr ⟨kvs, [.inr f, .inr m], T, .inl hk, rfl, upd_same, rfl⟩, _, rfl, ite2 (fun e1 => ?_) (fun _ => ⟨pT, hne, hLH, xs, hLT, Nat.le_succ_of_le hl, hup⟩)⟩
        refine ⟨_, rfl, _, hLT, by rw [List.length_map]; exact Nat.lt_of_lt_of_le (by omega) (sz 100), chg pT hLH hne, hne, hLH, xs ++ [f], by rw [upd_same, List.map_append]; rfl, by rw [List.length_append, List.length_singleton]; omega, fun x hx => ?_⟩
        rcases List.mem_append.mp hx with h | h
        · exact hup x h
        · rw [List.mem_singleton.mp h]
          exact hu1.get e1
      obtain ⟨p3, hBD, hBH, xs, hxs, hxl, hxu⟩ := p3
      rw [List.length_map] at hxl
      refine gname ?_
      refine seq_asg ?_
      refine lc_seq (H0 := H) (fun L j H' => Rst ρ D (60 + 64 * i) H H' ∧ L ≠ D ∧ H L = none ∧ L ≠ B ∧ H' B = some (.lst (xs.map V.str)) ∧ ∃ ys : List Str, H' L = some (.lst (ys.map V.str)) ∧ ys.length ≤ j ∧ ∀ y ∈ ys, ρ m < ρ y) (fun Q hQ => ⟨_, rfl, hQ⟩) hq (aH _ _ p3) (fun L hL => ?_) (fun L hL j H' _ p => aH _ _ p.1) (fun L hL j x H' hx p => ?_) (fun C hC H4 p4 => ?_)
      · obtain ⟨_, kvs, hk, _⟩ := id p3
        have hne := ne_of_none hxs hL
        exact ⟨p3.new hL, Ne.symm (ne_of_none hk hL), fresh p3 hL, Ne.symm hne, by rw [upd_ne hne]; exact hxs, [], upd_same, Nat.le_refl _, fun _ h => by cases h⟩
      · obtain ⟨p, hne, hLH, hLB, hB', ys, hys, hl, hup⟩ := p
        obtain ⟨f, rfl⟩ := ev hx
        have j8 := el hx
        refine ⟨rfl, _, rfl, _, rfl, sz 2, fun T nT => ?_⟩
        have pT := p.new (o := .tup [.str m, .str f]) nT
        have hLT : (upd H' T (.tup [.str m, .str f])) L = some (.lst (ys.map V.str)) := by
          rw [upd_ne (ne_of_none hys nT)]
          exact hys
        have hBT : (upd H' T (.tup [.str m, .str f])) B = some (.lst (xs.map V.str)) := by
          rw [upd_ne (ne_of_none hB' nT)]
          exact hB'
        obtain ⟨_, kvs, hk, hu1, _⟩ := id pT
        refine ⟨_, rfl, D, _, rfl, .inr ⟨kvs, [.inr m, .inr f], T, .inl hk, rfl, upd_same, rfl⟩, _, rfl, ite2 (fun e1 => ?_) (fun _ => ⟨pT, hne, hLH, hLB, hBT, ys, hLT, Nat.le_succ_of_le hl, hup⟩)⟩
        refine ⟨_, rfl, _, hLT, by rw [List.length_map]; exact Nat.lt_of_lt_of_le (by omega) (sz 100), chg pT hLH hne, hne, hLH, hLB, by rw [upd_ne (Ne.symm hLB)]; exact hBT, ys ++ [f], by rw [upd_same, List.map_append]; rfl, by rw [List.length_append, List.length_singleton]; omega, fun x hx => ?_⟩
        rcases List.mem_append.mp hx with h | h
        · exact hup x h
        · rw [List.mem_singleton.mp h]
          exact hu1.get e1
      obtain ⟨p4, hCD, hCH, hCB, hB4, ys, hys, hyl, hyu⟩ := p4
      rw [List.length_map] at hyl
      have sB : Sq K H4 B (xs.map V.str) := .inl (.inl (.inl hB4))
      have sC : Sq K H4 C (ys.map V.str) := .inl (.inl (.inl hys))
      refine gname ?_
      refine for_seqA (H0 := H4) (fun j σ H' => (Rst ρ D (60 + 64 * i + 8 * j) H H' ∧ H' B = some (.lst (xs.map V.str)) ∧ H' C = some (.lst (ys.map V.str))) ∧ ∃ v4 v6, σ = [some (.ref a), some (.ref b), some (.ref D), some (.str m), v4, some (.ref B), v6, some (.ref C), none, none, none, none]) (fun Q hQ => ⟨_, rfl, hQ⟩) sB ⟨⟨p4, hB4, hys⟩, _, _, rfl⟩ (fun j _ H' _ p o ho => by rw [hB4] at ho; cases ho; exact p.1.2.1) (fun j x σ H5 hx5 p => ?_) (fun σ H5 p => ?_)
      · obtain ⟨⟨p, hB5, hC5⟩, w4, w6, rfl⟩ := p
        have j8 : j < 8 := by
          have := (List.getElem?_eq_some_iff.mp hx5).1
          rw [List.length_map] at this
          omega
        obtain ⟨f, rfl, hfm⟩ : ∃ f : Str, x = .str f ∧ ρ f < ρ m := by
          rw [List.getElem?_map] at hx5
          cases e : xs[j]? with
          | none => rw [e] at hx5; cases hx5
          | some f => rw [e] at hx5; cases hx5; exact ⟨f, rfl, hxu f (List.mem_of_getElem? e)⟩
        refine gname (for_seqA (H0 := H4) (fun k σ H' => (Rst ρ D (60 + 64 * i + 8 * j + k) H H' ∧ H' B = some (.lst (xs.map V.str)) ∧ H' C = some (.lst (ys.map V.str))) ∧ ∃ v6, σ = [some (.ref a), some (.ref b), some (.ref D), some (.str m), some (.str f), some (.ref B), v6, some (.ref C), none, none, none, none]) (fun Q hQ => ⟨_, rfl, hQ⟩) sC ⟨⟨p, hB5, hC5⟩, _, rfl⟩ (fun k _ H' _ p o ho => by rw [hys] at ho; cases ho; exact p.1.2.2) (fun k x σ H6 hx6 p => ?_) (fun σ H6 p => ?_))
        · obtain ⟨⟨p, hB6, hC6⟩, u6, rfl⟩ := p
          have k8 : k < 8 := by
            have := (List.getElem?_eq_some_iff.mp hx6).1
            rw [List.length_map] at this
            omega
          obtain ⟨l, rfl, hml⟩ : ∃ f : Str, x = .str f ∧ ρ m < ρ f := by
            rw [List.getElem?_map] at hx6
            cases e : ys[k]? with
            | none => rw [e] at hx6; cases hx6
            | some f => rw [e] at hx6; cases hx6; exact ⟨f, rfl, hyu f (List.mem_of_getElem? e)⟩
          refine gname ?_
          refine ⟨_, rfl, _, rfl, _, rfl, sz 2, fun T3 nT3 => ?_⟩
          have pT3 := p.new (o := .tup [.str f, .str l]) nT3
          obtain ⟨_, kvs3, hk3, hu3, hl3⟩ := id pT3
          have lt3 : ρ f < ρ l := Nat.lt_trans hfm hml
          refine ⟨D, _, rfl, .inr ⟨kvs3, [.inr f, .inr l], T3, hk3, rfl, upd_same, Nat.lt_of_lt_of_le (by omega) (sz 1000), rfl⟩, ⟨(pT3.put hk3 lt3).mono (by omega), ?_, ?_⟩, _, rfl⟩
          · rw [upd_ne hBD, upd_ne (ne_of_none hB6 nT3)]
            exact hB6
          · rw [upd_ne hCD, upd_ne (ne_of_none hC6 nT3)]
            exact hC6
        · obtain ⟨⟨p, hB6, hC6⟩, u6, rfl⟩ := p
          exact ⟨⟨p.mono (by rw [List.length_map]; omega), hB6, hC6⟩, _, _, rfl⟩
      · obtain ⟨⟨p, hB5, hC5⟩, w4, w6, rfl⟩ := p
        exact ⟨p.mono (by rw [List.length_map]; omega), _, _, _, _, _, rfl⟩
    · obtain ⟨p, v3, v4, v5, v6, v7, rfl⟩ := p
      refine ret_of (lc_seq (H0 := H) (fun L i H' => Ext D H H' ∧ H' L = some (.lst []) ∧ L ≠ D ∧ ∃ kvs, H' D = some (.dT kvs) ∧ UpK ρ kvs) (fun Q hQ => ⟨_, rfl, hQ⟩) hq (aH _ _ p) (fun L hL => ?_) (fun L hL i H' _ p => atE hD p.1) (fun L hL i x H' hx p => ?_) (fun L hL H' p => q L H' (fun c o hc => p.1 c o (ne_of_none hc hD) hc) p.2.1))
      · obtain ⟨e, kvs, hk, hu1, _⟩ := p
        have hne := ne_of_none hk hL
        exact ⟨e.trans (Ext.new hL), upd_same, Ne.symm hne, kvs, by rw [upd_ne hne]; exact hk, hu1⟩
      · obtain ⟨e, hL', hne, kvs, hk, hu1⟩ := p
        obtain ⟨m, rfl⟩ := ev hx
        refine ⟨rfl, _, rfl, _, rfl, sz 2, fun T nT => ?_⟩
        have hk' : (upd H' T (.tup [.str m, .str m])) D = some (.dT kvs) := by
          rw [upd_ne (ne_of_none hk nT)]
          exact hk
        refine ⟨_, rfl, D, _, rfl, .inr ⟨kvs, [.inr m, .inr m], T, .inl hk', rfl, upd_same, rfl⟩, _, rfl, ite2 (fun e1 => absurd (hu1.get e1) (Nat.lt_irrefl _)) (fun _ => ?_)⟩
        exact ⟨e.trans (Ext.new nT), by rw [upd_ne (ne_of_none hL' nT)]; exact hL', hne, kvs, hk', hu1⟩

end
end Pk

set_option Elab.async false
set_option linter.all false
set_option maxRecDepth 100000
set_option maxHeartbeats 4000000
namespace Pk
open PySem PySem.Spec PyProof.Rows L2 Pu
abbrev s_Plan___init__ : Stmt := inClass (topS 41) 0
theorem sc_Plan___init__ : FnScope ["self", "events", "ties", "limits", "members"] ["self", "events", "ties", "limits"] (defScope s_Plan___init__) := ⟨rfl, rfl, rfl, by decide +kernel, rfl, by decide +kernel, by decide +kernel⟩
abbrev s_Plan_events : Stmt := inClass (topS 41) 1
theorem sc_Plan_events : FnScope ["self"] ["self"] (defScope s_Plan_events) := ⟨rfl, rfl, rfl, by decide +kernel, rfl, by decide +kernel, by decide +kernel⟩
abbrev s_Plan_ties : Stmt := inClass (topS 41) 2
theorem sc_Plan_ties : FnScope ["self"] ["self"] (defScope s_Plan_ties) := ⟨rfl, rfl, rfl, by decide +kernel, rfl, by decide +kernel, by decide +kernel⟩
abbrev s_Plan_limits : Stmt := inClass (topS 41) 3
theorem sc_Plan_limits : FnScope ["self"] ["self"] (defScope s_Plan_limits) := ⟨rfl, rfl, rfl, by decide +kernel, rfl, by decide +kernel, by decide +kernel⟩
abbrev s_Plan___len__ : Stmt := inClass (topS 41) 5
theorem sc_Plan___len__ : FnScope ["self"] ["self"] (defScope s_Plan___len__) := ⟨rfl, rfl, rfl, by decide +kernel, rfl, by decide +kernel, by decide +kernel⟩
abbrev s_Plan___contains__ : Stmt := inClass (topS 41) 6
theorem sc_Plan___contains__ : FnScope ["self", "value"] ["self", "value"] (defScope s_Plan___contains__) := ⟨rfl, rfl, rfl, by decide +kernel, rfl, by decide +kernel, by decide +kernel⟩
abbrev s_need_plan : Stmt := topS 42
theorem sc_need_plan : FnScope ["plan"] ["plan"] (defScope s_need_plan) := ⟨rfl, rfl, rfl, by decide +kernel, rfl, by decide +kernel, by decide +kernel⟩

section
variable {P : Program} {w : World} {K : PySem.W.Frag} {mg : Str → Option Value} {base : Heap}
/-! ### the class -/
structure PlanC (K : PySem.W.Frag) (C : Addr) : Prop where
  cls : Cls K C
  order : NoAttr K C "order"
  rows : NoAttr K C "rows"
  caps : NoAttr K C "caps"
structure PlanAt (K : PySem.W.Frag) (C : Addr) (H : Hp) (p : Addr) (d : PlanD) : Prop where
  ex : ∃ (dx o r c : Addr) (ts : List Addr), H p = some (.ins C dx [("order", .ref o), ("rows", .ref r), ("caps", .ref c)]) ∧ SqT K H o (d.evs.map V.str) ∧ SqT K H r (ts.map V.ref) ∧ TiesAt H ts d.ties ∧ H c = some (.dK (capsV d.caps))
theorem PlanAt.same {C : Addr} {H H' : Hp} {p : Addr} {d : PlanD} (h : PlanAt K C H p d) (s : Same H H') : PlanAt K C H' p d := by
  obtain ⟨dx, o, r, c, ts, h1, h2, h3, h4, h5⟩ := h.ex
  exact ⟨dx, o, r, c, ts, s _ _ h1, sqt_same h2 s, sqt_same h3 s, h4.same s, s _ _ h5⟩
theorem keepI {H : Hp} {x C dx : Addr} {fs : List (Str × V)} {u : HO} (hx : H x = some (.ins C dx fs)) {b : Addr} {o : HO} (hb : H b = some o) (hn : o ≠ .ins C dx fs) : (upd H x u) b = some o := by
  rw [upd_ne (fun e => hn (by subst e; rw [hx] at hb; cases hb; rfl))]
  exact hb
theorem sqt_ins {H : Hp} {x C dx a : Addr} {fs : List (Str × V)} {u : HO} {xs : List V} (h : SqT K H a xs) (hx : H x = some (.ins C dx fs)) : SqT K (upd H x u) a xs := by
  rcases h with (h | ⟨o, h⟩) | h
  · exact .inl (.inl (keepI hx h (fun z => nomatch z)))
  · exact .inl (.inr ⟨o, keepI hx h (fun z => nomatch z)⟩)
  · exact .inr h
theorem sq_ins {H : Hp} {x C dx a : Addr} {fs : List (Str × V)} {u : HO} {xs : List V} (h : Sq K H a xs) (hx : H x = some (.ins C dx fs)) : Sq K (upd H x u) a xs := by
  rcases h with ((h | ⟨o, h⟩) | h) | h
  · exact .inl (.inl (.inl (keepI hx h (fun z => nomatch z))))
  · exact .inl (.inl (.inr ⟨o, keepI hx h (fun z => nomatch z)⟩))
  · exact .inl (.inr h)
  · exact .inr (sqt_ins h hx)
theorem TiesAt.ins {H : Hp} {x C dx : Addr} {fs : List (Str × V)} {u : HO} {ts : List Addr} {ties : List (Str × Str × Int)} (h : TiesAt H ts ties) (hx : H x = some (.ins C dx fs)) : TiesAt (upd H x u) ts ties := by
  unfold TiesAt at *
  induction h with
  | nil => exact .nil
  | cons r _ ih => exact .cons (keepI hx r (fun z => nomatch z)) ih
theorem LimsAt.ins {H : Hp} {x C dx : Addr} {fs : List (Str × V)} {u : HO} {l : V} {cs : List (Str × Int)} (h : LimsAt H l cs) (hx : H x = some (.ins C dx fs)) : LimsAt (upd H x u) l cs := by
  rcases h with h | ⟨c, e, h⟩
  · exact .inl h
  · exact .inr ⟨c, e, keepI hx h (fun z => nomatch z)⟩
theorem LimsAt.same {H H' : Hp} {l : V} {cs : List (Str × Int)} (h : LimsAt H l cs) (s : Same H H') : LimsAt H' l cs := by
  rcases h with h | ⟨c, e, h⟩
  · exact .inl h
  · exact .inr ⟨c, e, s _ _ h⟩
theorem tupNew {X : Cx} (K : PySem.W.Frag) (h : X.K = K := by rfl) : CallR X (.type "tuple") (fun xs H Q => ∃ p ys, xs = [.ref p] ∧ Sq K H p ys ∧ ∀ q H', Same H H' → SqT K H' q ys → Q (.ref q) H') := by
  intro pins s σ H xs us Q I rv hh
  obtain ⟨p, ys, rfl, hs, q⟩ := hh
  refine tupOf K h pins s σ H _ us Q I rv ⟨p, ys, rfl, ?_⟩
  rcases hs with hl | ht
  · exact .inl ⟨hl, fun l nl => q l _ (same_upd nl) (.inl (.inl upd_same))⟩
  · exact .inr ⟨ht, q p H (Same.refl _) ht⟩
def spInit (K : PySem.W.Frag) (C : Addr) : Sp := fun vs H Q _ => ∃ (x dx a b : Addr) (l : V) (ts : List Addr) (d : PlanD), vs = [.ref x, .ref a, .ref b, l] ∧ H x = some (.ins C dx []) ∧ Sq K H a (d.evs.map V.str) ∧ Sq K H b (ts.map V.ref) ∧ TiesAt H ts d.ties ∧ LimsAt H l d.caps ∧ PlanOk d ∧
  ∀ H', Ext x H H' → PlanAt K C H' x d → Q .non H'
theorem ok_init {C f : Addr} {fd : FuncData} {dv : List V} (F : FunD K "__init__" "Plan.__init__" (defArgs s_Plan___init__) (defBody s_Plan___init__) (defScope s_Plan___init__) dv [("limits", .non)] f fd) (T : Txt mg) (PC : PlanC K C)
    (cneed_events : Cal P w K mg base 2 "need_events" (spEvents K) []) (cneed_ties : Cal P w K mg base 4 "need_ties" (spTies K) []) (cneed_limits : Cal P w K mg base 3 "need_limits" (spLimits K) []) (cringed : Cal P w K mg base 1 "ringed" (spRinged K) []) :
    FnOk P w K mg base CX0 5 f fd ["self", "events", "ties", "limits"] (spInit K C) := by
  have nd := sc_Plan___init__.nd
  refine F.ok sc_Plan___init__ (fun vs H Q E h => ?_) (fun cdv A outer s H vs Q E hr h => ?_)
  · obtain ⟨_, _, _, _, _, _, _, rfl, _⟩ := h
    rfl
  · obtain ⟨x, dx, a, b, l, ts, d, rfl, hx, hq, hb, ht, hl, ok, q⟩ := h
    refine ⟨_, (pss_cons (ps_expr (pe_c cneed_events hr (by decide) rfl (pa_cons (pv 1) pa_nil)))
      (pss_cons (ps_expr (pe_c cneed_ties hr (by decide) rfl (pa_cons (pv 1) (pa_cons (pv 2) pa_nil))))
      (pss_cons (ps_expr (pe_c cneed_limits hr (by decide) rfl (pa_cons (pv 1) (pa_cons (pv 3) pa_nil))))
      (pss_cons (ps_set (i := 4) nd rfl (Or.inl rfl) (pe_c cringed hr (by decide) rfl (pa_cons (pv 1) (pa_cons (pv 2) pa_nil))))
      (pss_cons (ps_if (pt_truth (pv 4) (fun _ => rfl))
      (pss_one ps_no) pss_nil)
      (pss_cons (ps_fld (pv 0) (pe_callTy (tupNew K) (by rfl) T.m_tuple PyProof.Rows.boot_tuple (pa_cons (pv 1) pa_nil)) rfl)
      (pss_cons (ps_fld (pv 0) (pe_callTy (tupNew K) (by rfl) T.m_tuple PyProof.Rows.boot_tuple (pa_cons (pv 2) pa_nil)) rfl)
      (pss_one (ps_fld (pv 0) (pe_ifExp (pt_cmpR op_isN (pv 3) pe_non (by rfl)) pe_dnewK (pe_callTy call_dictD (by rfl) T.m_dict PyProof.Rows.boot_dict (pa_cons (pv 3) pa_nil))) rfl))))))))), ?_⟩
    obtain ⟨ρ, hρ⟩ := ok.up
    refine ⟨_, rfl, a, d.evs, rfl, hq, ok.evs, fun H1 s1 => ?_⟩
    refine ⟨_, rfl, _, rfl, a, b, d.evs, ts, d.ties, rfl, sq_same hq s1, sq_same hb s1, ht.same s1, ok.tl, ok.tin, fun H2 s2 => ?_⟩
    have t2 := Same.trans s1 s2
    refine ⟨_, rfl, _, rfl, a, d.evs, l, d.caps, rfl, sq_same hq t2, hl.same t2, ok.cnd, ok.cin, fun H3 s3 => ?_⟩
    have t3 := Same.trans t2 s3
    refine ⟨_, rfl, _, rfl, a, b, d.evs, ts, d.ties, ρ, rfl, sq_same hq t3, sq_same hb t3, ht.same t3, ok.evs.hi, ok.tl, hρ, fun p H4 s4 hp => ?_⟩
    have t4 := Same.trans t3 s4
    refine ⟨_, rfl, false, .inl ⟨[], .inl (.inl hp), rfl⟩, ?_⟩
    refine ⟨_, rfl, a, _, rfl, sq_same hq t4, fun o H5 s5 ho => ?_⟩
    have t5 := Same.trans t4 s5
    have x5 := t5 _ _ hx
    refine ⟨_, rfl, x, C, dx, _, rfl, x5, PC.cls, PC.order, (show (0 : Nat) < 1000 by decide), ?_⟩
    have x6 : (upd H5 x (.ins C dx (putF "order" (.ref o) []))) x = some (.ins C dx [("order", .ref o)]) := upd_same
    have b6 := sq_ins (u := .ins C dx (putF "order" (.ref o) [])) (sq_same hb t5) x5
    have ht6 := (ht.same t5).ins (u := .ins C dx (putF "order" (.ref o) [])) x5
    have l6 := (hl.same t5).ins (u := .ins C dx (putF "order" (.ref o) [])) x5
    have o6 := sqt_ins (u := .ins C dx (putF "order" (.ref o) [])) ho x5
    have e6 : Ext x H (upd H5 x (.ins C dx (putF "order" (.ref o) []))) := fun c u hc hu => by
      rw [upd_ne hc]
      exact t5 _ _ hu
    revert x6 b6 ht6 l6 o6 e6
    generalize upd H5 x (.ins C dx (putF "order" (.ref o) [])) = H6
    intro x6 b6 ht6 l6 o6 e6
    refine ⟨_, rfl, b, _, rfl, b6, fun r H7 s7 hr7 => ?_⟩
    have x7 := s7 _ _ x6
    refine ⟨_, rfl, x, C, dx, _, rfl, x7, PC.cls, PC.rows, (show (1 : Nat) < 1000 by decide), ?_⟩
    have x8 : (upd H7 x (.ins C dx (putF "rows" (.ref r) [("order", .ref o)]))) x = some (.ins C dx [("order", .ref o), ("rows", .ref r)]) := upd_same
    have ht8 := (ht6.same s7).ins (u := .ins C dx (putF "rows" (.ref r) [("order", .ref o)])) x7
    have l8 := (l6.same s7).ins (u := .ins C dx (putF "rows" (.ref r) [("order", .ref o)])) x7
    have o8 := sqt_ins (u := .ins C dx (putF "rows" (.ref r) [("order", .ref o)])) (sqt_same o6 s7) x7
    have r8 := sqt_ins (u := .ins C dx (putF "rows" (.ref r) [("order", .ref o)])) hr7 x7
    have e8 : Ext x H (upd H7 x (.ins C dx (putF "rows" (.ref r) [("order", .ref o)]))) := fun c u hc hu => by
      rw [upd_ne hc]
      exact s7 _ _ (e6 c u hc hu)
    revert x8 ht8 l8 o8 r8 e8
    generalize upd H7 x (.ins C dx (putF "rows" (.ref r) [("order", .ref o)])) = H8
    intro x8 ht8 l8 o8 r8 e8
    have fin : ∀ (c : Addr) (H9 : Hp), Same H8 H9 → H9 c = some (.dK (capsV d.caps)) → Q .non (upd H9 x (.ins C dx (putF "caps" (.ref c) [("order", .ref o), ("rows", .ref r)]))) := by
      intro c H9 s9 hc
      have x9 := s9 _ _ x8
      refine q _ (fun y u hy hu => ?_) ⟨dx, o, r, c, ts, upd_same, sqt_ins (sqt_same o8 s9) x9, sqt_ins (sqt_same r8 s9) x9, (ht8.same s9).ins x9, keepI x9 hc (fun z => nomatch z)⟩
      rw [upd_ne hy]
      exact s9 _ _ (e8 y u hy hu)
    rcases l8 with ⟨rfl, e⟩ | ⟨c, rfl, hc⟩
    · refine ⟨_, rfl, rfl, _, rfl, fun c nc => ?_⟩
      have s9 : Same H8 (upd H8 c (.dK [])) := same_upd nc
      refine ⟨_, rfl, x, C, dx, _, rfl, s9 _ _ x8, PC.cls, PC.caps, (show (2 : Nat) < 1000 by decide), fin c _ s9 (by rw [upd_same, e]; rfl)⟩
    · refine ⟨_, rfl, rfl, _, rfl, ite2 (fun e => nomatch of_decide_eq_true e) (fun _ => ?_)⟩
      refine ⟨_, rfl, c, _, rfl, .inl hc, fun c2 nc => ?_⟩
      have s9 : Same H8 (upd H8 c2 (.dK (capsV d.caps))) := same_upd nc
      exact ⟨_, rfl, x, C, dx, _, rfl, s9 _ _ x8, PC.cls, PC.caps, (show (2 : Nat) < 1000 by decide), fin c2 _ s9 upd_same⟩

end
end Pk

set_option Elab.async false
set_option linter.all false
set_option maxRecDepth 100000
set_option maxHeartbeats 4000000
namespace Pk
open PySem PySem.Spec PyProof.Rows L2 Pu
section
variable {P : Program} {w : World} {K : PySem.W.Frag} {mg : Str → Option Value} {base : Heap}
/-! ### what a plan tells -/
def spPEvents (K : PySem.W.Frag) (C : Addr) : Sp := fun vs H Q _ => ∃ (p : Addr) (d : PlanD), vs = [.ref p] ∧ PlanAt K C H p d ∧ ∀ q, H q = none → Q (.ref q) (upd H q (.lst (d.evs.map V.str)))
theorem ok_p_events {C f : Addr} {fd : FuncData} (F : Fun K "events" "Plan.events" s_Plan_events f fd) (T : Txt mg) (PC : PlanC K C) : FnOk P w K mg base CX0 1 f fd ["self"] (spPEvents K C) := by
  have nd := sc_Plan_events.nd
  refine F.ok sc_Plan_events (fun vs H Q E h => ?_) (fun cdv A outer s H vs Q E hr h => ?_)
  · obtain ⟨_, _, rfl, _⟩ := h
    rfl
  · obtain ⟨p, d, rfl, hp, q⟩ := h
    obtain ⟨dx, o, r, c, ts, h1, h2, h3, h4, h5⟩ := hp.ex
    refine ⟨_, (pss_one (ps_ret (pe_callTy (lstOf K) (by rfl) T.m_list PyProof.Rows.boot_list (pa_cons (pe_fld (pv 0) rfl) pa_nil)))), ?_⟩
    exact ⟨_, rfl, p, C, dx, _, _, rfl, h1, PC.cls, PC.order, rfl, o, _, rfl, .inr h2, fun l nl => q l nl⟩
def spPTies (K : PySem.W.Frag) (C : Addr) : Sp := fun vs H Q _ => ∃ (p : Addr) (d : PlanD), vs = [.ref p] ∧ PlanAt K C H p d ∧ ∀ q ts, H q = none → TiesAt H ts d.ties → Q (.ref q) (upd H q (.lst (ts.map V.ref)))
theorem ok_p_ties {C f : Addr} {fd : FuncData} (F : Fun K "ties" "Plan.ties" s_Plan_ties f fd) (T : Txt mg) (PC : PlanC K C) : FnOk P w K mg base CX0 1 f fd ["self"] (spPTies K C) := by
  have nd := sc_Plan_ties.nd
  refine F.ok sc_Plan_ties (fun vs H Q E h => ?_) (fun cdv A outer s H vs Q E hr h => ?_)
  · obtain ⟨_, _, rfl, _⟩ := h
    rfl
  · obtain ⟨p, d, rfl, hp, q⟩ := h
    obtain ⟨dx, o, r, c, ts, h1, h2, h3, h4, h5⟩ := hp.ex
    refine ⟨_, (pss_one (ps_ret (pe_callTy (lstOf K) (by rfl) T.m_list PyProof.Rows.boot_list (pa_cons (pe_fld (pv 0) rfl) pa_nil)))), ?_⟩
    exact ⟨_, rfl, p, C, dx, _, _, rfl, h1, PC.cls, PC.rows, rfl, r, _, rfl, .inr h3, fun l nl => q l ts nl h4⟩
def spPLimits (K : PySem.W.Frag) (C : Addr) : Sp := fun vs H Q _ => ∃ (p : Addr) (d : PlanD), vs = [.ref p] ∧ PlanAt K C H p d ∧ ∀ q, H q = none → Q (.ref q) (upd H q (.dK (capsV d.caps)))
theorem ok_p_limits {C f : Addr} {fd : FuncData} (F : Fun K "limits" "Plan.limits" s_Plan_limits f fd) (T : Txt mg) (PC : PlanC K C) : FnOk P w K mg base CX0 1 f fd ["self"] (spPLimits K C) := by
  have nd := sc_Plan_limits.nd
  refine F.ok sc_Plan_limits (fun vs H Q E h => ?_) (fun cdv A outer s H vs Q E hr h => ?_)
  · obtain ⟨_, _, rfl, _⟩ := h
    rfl
  · obtain ⟨p, d, rfl, hp, q⟩ := h
    obtain ⟨dx, o, r, c, ts, h1, h2, h3, h4, h5⟩ := hp.ex
    refine ⟨_, (pss_one (ps_ret (pe_callTy call_dictD (by rfl) T.m_dict PyProof.Rows.boot_dict (pa_cons (pe_fld (pv 0) rfl) pa_nil)))), ?_⟩
    exact ⟨_, rfl, p, C, dx, _, _, rfl, h1, PC.cls, PC.caps, rfl, c, _, rfl, .inl h5, fun l nl => q l nl⟩
def spPLen (K : PySem.W.Frag) (C : Addr) : Sp := fun vs H Q _ => ∃ (p : Addr) (d : PlanD), vs = [.ref p] ∧ PlanAt K C H p d ∧ Q (.int (d.evs.length : Nat)) H
theorem ok_p_len {C f : Addr} {fd : FuncData} (F : Fun K "__len__" "Plan.__len__" s_Plan___len__ f fd) (T : Txt mg) (PC : PlanC K C) : FnOk P w K mg base CX0 1 f fd ["self"] (spPLen K C) := by
  have nd := sc_Plan___len__.nd
  refine F.ok sc_Plan___len__ (fun vs H Q E h => ?_) (fun cdv A outer s H vs Q E hr h => ?_)
  · obtain ⟨_, _, rfl, _⟩ := h
    rfl
  · obtain ⟨p, d, rfl, hp, q⟩ := h
    obtain ⟨dx, o, r, c, ts, h1, h2, h3, h4, h5⟩ := hp.ex
    refine ⟨_, (pss_one (ps_ret (pe_callB (lenK K) (by rfl) T.m_len PySem.boot_len (pa_cons (pe_fld (pv 0) rfl) pa_nil)))), ?_⟩
    refine ⟨_, rfl, p, C, dx, _, _, rfl, h1, PC.cls, PC.order, rfl, .inl ⟨o, _, rfl, .inr h2, ?_⟩⟩
    rw [List.length_map]
    exact q
def spPIn (K : PySem.W.Frag) (C : Addr) : Sp := fun vs H Q _ => ∃ (p : Addr) (v : V) (d : PlanD), vs = [.ref p, v] ∧ PlanAt K C H p d ∧ ((∃ e, v = .str e ∧ Q (.bl (decide (e ∈ d.evs))) H) ∨ ∃ t, TyX K H v t ∧ PySem.W.kitOne K t (.type "str") = some false ∧ Q (.bl false) H)
theorem ok_p_in {C f : Addr} {fd : FuncData} (F : Fun K "__contains__" "Plan.__contains__" s_Plan___contains__ f fd) (T : Txt mg) (PC : PlanC K C) : FnOk P w K mg base CX0 1 f fd ["self", "value"] (spPIn K C) := by
  have nd := sc_Plan___contains__.nd
  refine F.ok sc_Plan___contains__ (fun vs H Q E h => ?_) (fun cdv A outer s H vs Q E hr h => ?_)
  · obtain ⟨_, _, _, rfl, _⟩ := h
    rfl
  · obtain ⟨p, v, d, rfl, hp, q⟩ := h
    obtain ⟨dx, o, r, c, ts, h1, h2, h3, h4, h5⟩ := hp.ex
    refine ⟨_, (pss_one (ps_ret (pe_and (pe_callB (isiK K) (by rfl) T.m_isinstance PyProof.Rows.boot_isinstance (pa_cons (pv 1) (pa_cons (pe_bltn (v := .ty "str") rfl T.m_str PyProof.Rows.boot_str rfl) pa_nil))) (pe_one (pe_cmpR (oIn K) (pv 1) (pe_fld (pv 0) rfl) (by rfl)))))), ?_⟩
    rcases q with ⟨e, rfl, q⟩ | ⟨t, ht, hk, q⟩
    · refine ⟨_, rfl, _, _, _, _, _, rfl, .ty _, .base (.str e), kity true (by decide) (by decide) rfl, _, rfl, ?_⟩
      refine ⟨_, rfl, _, rfl, p, C, dx, _, _, rfl, h1, PC.cls, PC.order, rfl, .inr ⟨o, _, rfl, .inr h2, rfl, flat_strs _, ?_⟩⟩
      show Q (.bl (inV (.str e) (d.evs.map V.str))) H
      rw [inV_strs]
      exact q
    · exact ⟨_, rfl, _, _, _, _, _, rfl, .ty _, ht, hk, _, rfl, q⟩

end
end Pk

set_option Elab.async false
set_option linter.all false
set_option maxRecDepth 100000
set_option maxHeartbeats 4000000
namespace Pk
open PySem PySem.Spec PyProof.Rows L2 Pu
open PySem.Er (ErrTxt)
section
variable {P : Program} {w : World} {K : PySem.W.Frag} {mg : Str → Option Value} {base : Heap}
/-! ### plans as arguments -/
structure PlanI (K : PySem.W.Frag) (C : Addr) : Prop extends PlanC K C where
  ha : PySem.W.findIn K (.ref C) "__class__" = some (some (.builtin "object.__class__"))
  hn : PySem.W.specialIn K (.builtin "object.__class__") "__get__" = some (some (.builtin "getset_descriptor.__get__"))
  htk : PySem.W.takesIn K (.builtin "object.__class__") = some true
  hm : PySem.W.mroIn K C (.type "object") = some true
  isi : PySem.W.kitOne K (.ref C) (.ref C) = some true
theorem PlanAt.ty {C : Addr} {H : Hp} {p : Addr} {d : PlanD} (h : PlanAt K C H p d) (PI : PlanI K C) : TyX K H (.ref p) (.ref C) := by
  obtain ⟨dx, o, r, c, ts, h1, _⟩ := h.ex
  exact .base (.ins h1 PI.cls PI.ha PI.hn PI.htk PI.hm)
/-- no plan -/
def NoPlan (K : PySem.W.Frag) (C : Addr) (H : Hp) (v : V) : Prop := ∃ t, TyX K H v t ∧ PySem.W.kitOne K t (.ref C) = some false
/-- the error e of the class CE with the field f -/
abbrev Out (CE : Addr) (f : Str) (v : V) (E : XK) (H : Hp) : Prop := ∀ dd, H dd = none → E (.ref CE) (some dd) (upd H dd (.xd [(f, v)]))
def spNeedPlan (K : PySem.W.Frag) (C CE : Addr) : Sp := fun vs H Q E => ∃ v, vs = [v] ∧ ((∃ p d, v = .ref p ∧ PlanAt K C H p d ∧ Q .non H) ∨ (NoPlan K C H v ∧ Out CE "value" v E H))
theorem ok_need_plan {C CE fE f : Addr} {fd : FuncData} (F : Fun K "need_plan" "need_plan" s_need_plan f fd) (T : Txt mg) (PI : PlanI K C) (m_Plan : mg "Plan" = some (.ref C)) (e_InvalidPlan : ErrTxt K mg "InvalidPlan" "value" CE fE) :
    FnOk P w K mg base (L2.CX P w) 1 f fd ["plan"] (spNeedPlan K C CE) := by
  have nd := sc_need_plan.nd
  refine F.okX sc_need_plan (fun vs H Q E h => ?_) (fun cdv A outer s H vs Q E hr h => ?_)
  · obtain ⟨_, rfl, _⟩ := h
    rfl
  · obtain ⟨v, rfl, h⟩ := h
    refine ⟨_, (pss_one (ps_if (pt_not (pt_val (pe_callB (isiK K) (by rfl) T.m_isinstance PyProof.Rows.boot_isinstance (pa_cons (pv 0) (pa_cons (pe_cls rfl m_Plan) pa_nil)))))
      (pss_one (ps_raiseE rfl e_InvalidPlan hr (takes_of rfl rfl rfl rfl) (pa_cons (pv 0) pa_nil) rfl)) pss_nil)), ?_⟩
    rcases h with ⟨p, d, rfl, hp, q⟩ | ⟨⟨t, ht, hk⟩, e⟩
    · exact ⟨_, rfl, _, _, _, _, _, rfl, .own _, hp.ty PI, PI.isi, _, rfl, q⟩
    · exact ⟨_, rfl, _, _, _, _, _, rfl, .own _, ht, hk, _, rfl, _, rfl, _, rfl, e⟩
/-! ### methods of the class -/
structure CalM (P : Program) (w : World) (K : PySem.W.Frag) (mg : Str → Option Value) (base : Heap) (k : Nat) (C : Addr) (m : Str) (sp : Sp) : Prop where
  ex : ∃ (f : Addr) (fd : FuncData) (ps : List Str), FnOk P w K mg base CX0 k f fd ps sp ∧ Binds K fd ps [] ∧ PySem.W.findIn K (.ref C) m = some (some (.ref f)) ∧ PySem.W.isFn K (.ref f) = true ∧ PySem.W.keepIn K (.ref f) = true
theorem CalM.own {X : Cx} {k : Nat} {C : Addr} {m : Str} {sp : Sp} (c : CalM X.prog X.w X.K X.mg X.base k C m sp) : Own X CX0 k C m sp := by
  obtain ⟨f, fd, ps, h1, h2, h3, h4, h5⟩ := c.ex
  exact ⟨f, fd, ps, h1, h2, h3, h4⟩
theorem pe_m0' {X : Cx} {k j : Nat} {C : Addr} {m : Str} {sp : Sp} {o : Expr} {ta : TE} {apos pos : Pos} {pl : Sem Bool} (he : PE X o ta) (cl : Cls X.K C) (c : CalM X.prog X.w X.K X.mg X.base k C m sp) (hr : Room j X.A) (hk : k ≤ j)
    (ht : eval (.Call (.Attribute o m apos) [] [] pos) X.env = (do
      let ov ← eval o X.env
      standAt apos.atName
      let (f, first) ← holding [ov] (getMethod ov m pl)
      callWith pos f first (backTo pos (starEach [] X.env)) (backToKw pos (keywordEach [] X.env))) := by rfl) : PE X (.Call (.Attribute o m apos) [] [] pos) (tMeth C m sp [] E0 ta tNil) := by
  obtain ⟨f, fd, ps, h1, h2, h3, h4, h5⟩ := c.ex
  exact pe_meth0 he cl ⟨h3, h4, h5⟩ h1 (hr.mono hk) h2 .nil pass0 ht

end
end Pk

set_option Elab.async false
set_option linter.all false
set_option maxRecDepth 100000
set_option maxHeartbeats 4000000
/-! comprehensions whose items are told one by one, over heaps that only grow -/
namespace Pu
open PySem PySem.Spec PyProof.Rows L2
theorem same_put {H1 H'' : Hp} {D : Addr} {o : HO} (hD : H1 D = none) (s : Same H1 H'') : Same H1 (upd H'' D o) := fun b u hb => by
  rw [upd_ne (ne_of_none hb hD)]
  exact s b u hb
section
variable {J : It} {G : Hp → Prop} {α : Type} {xs : List α} {v f : α → V} {keep : α → Bool} {D : Addr} {H1 : Hp} {tt : TT} {te : TE} {i : Nat} {vs : List Nat} {σ : L2.St} {Qd : Hp → Prop}
/-- [f x for x in xs if keep x] -/
theorem lc_fm (w : Walk J xs.length G (YAt (xs.map v))) (hD : H1 D = none) (hG : ∀ H', Same H1 H' → G H') (hz : xs.length < sizeLine) (keep : α → Bool) (f : α → V)
    (hw : ∀ x, wipe ((wipe σ vs).set i (some x)) vs = wipe σ vs)
    (step : ∀ x, x ∈ xs → ∀ H', Same H1 H' → ∀ (N : VK) (M : Hp → Prop), (keep x = true → ∀ H'', Same H' H'' → N (f x) H'') → (keep x = false → ∀ H'', Same H' H'' → M H'') →
      tt ((wipe σ vs).set i (some (v x))) H' fun b H3 => if b = true then te ((wipe σ vs).set i (some (v x))) H3 N else M H3)
    (fin : ∀ H', Same H1 H' → H' D = some (.lst ((xs.filter keep).map f)) → Qd H') :
    ∃ W : Nat → Nat → Hp → Prop, (∃ m, W 0 m (upd H1 D (.lst []))) ∧ ∀ i' m H, W i' m H →
      (J.stop i' H ∧ Qd H) ∨ (J.go i' H ∧ ∃ Nx : Hp → Prop, (∀ H', Nx H' → ∃ m', m' < m ∧ W (i' + 1) m' H') ∧ ∀ x H', J.yld i' H x H' → gName i x (wipe σ vs) H' fun σ2 H2 => wipe σ2 vs = wipe σ vs ∧ tt σ2 H2 fun b H3 =>
        if b = true then te σ2 H3 fun y H4 => ∃ acc, H4 D = some (.lst acc) ∧ acc.length < sizeLine ∧ Nx (upd H4 D (.lst (acc ++ [y]))) else Nx H3) := by
  refine lc_it w (fun j H' => Same H1 H' ∧ H' D = some (.lst (((xs.take j).filter keep).map f))) ⟨same_upd hD, upd_same⟩ (fun j H' _ p => hG H' p.1) (fun j x H' H'' hj pv yv => ?_) (fun H' pv => ?_)
  · obtain ⟨rfl, hx⟩ := yv
    rw [List.getElem?_map, List.getElem?_eq_getElem hj] at hx
    cases hx
    refine ⟨hw _, step xs[j] (List.getElem_mem hj) H'' pv.1 _ _ (fun hk H3 s3 => ?_) fun hk H3 s3 => ?_⟩
    · refine ⟨_, s3 _ _ pv.2, ?_, same_put hD (Same.trans pv.1 s3), ?_⟩
      · rw [List.length_map]
        refine Nat.lt_of_le_of_lt (List.length_filter_le _ _) ?_
        rw [List.length_take]
        exact Nat.lt_of_le_of_lt (Nat.min_le_right _ _) hz
      · rw [upd_same, List.take_add_one, List.getElem?_eq_getElem hj, List.filter_append, List.map_append]
        show some (HO.lst (_ ++ [f xs[j]])) = some (.lst (_ ++ (List.filter _ [xs[j]]).map f))
        rw [List.filter_cons, if_pos hk]
        rfl
    · refine ⟨Same.trans pv.1 s3, ?_⟩
      rw [List.take_add_one, List.getElem?_eq_getElem hj, List.filter_append]
      show _ = some (HO.lst ((_ ++ List.filter _ [xs[j]]).map f))
      rw [List.filter_cons, if_neg (by rw [hk]; decide), List.filter_nil, List.append_nil]
      exact s3 _ _ pv.2
  · refine fin H' pv.1 ?_
    rw [pv.2, List.take_length]
/-- [f x for x in xs] -/
theorem lc_map (w : Walk J xs.length G (YAt (xs.map v))) (hD : H1 D = none) (hG : ∀ H', Same H1 H' → G H') (hz : xs.length < sizeLine) (f : α → V)
    (hw : ∀ x, wipe ((wipe σ vs).set i (some x)) vs = wipe σ vs)
    (step : ∀ x, x ∈ xs → ∀ H', Same H1 H' → ∀ (N : VK), (∀ H'', Same H' H'' → N (f x) H'') → te ((wipe σ vs).set i (some (v x))) H' N)
    (fin : ∀ H', Same H1 H' → H' D = some (.lst (xs.map f)) → Qd H') :
    ∃ W : Nat → Nat → Hp → Prop, (∃ m, W 0 m (upd H1 D (.lst []))) ∧ ∀ i' m H, W i' m H →
      (J.stop i' H ∧ Qd H) ∨ (J.go i' H ∧ ∃ Nx : Hp → Prop, (∀ H', Nx H' → ∃ m', m' < m ∧ W (i' + 1) m' H') ∧ ∀ x H', J.yld i' H x H' → gName i x (wipe σ vs) H' fun σ2 H2 => wipe σ2 vs = wipe σ vs ∧ tYes σ2 H2 fun b H3 =>
        if b = true then te σ2 H3 fun y H4 => ∃ acc, H4 D = some (.lst acc) ∧ acc.length < sizeLine ∧ Nx (upd H4 D (.lst (acc ++ [y]))) else Nx H3) := by
  refine lc_fm (keep := fun _ => true) (f := f) w hD hG hz hw (fun x hx H' s N M h1 h2 => step x hx H' s N (h1 rfl)) fun H' s h => fin H' s ?_
  rw [h, List.filter_eq_self.mpr fun _ _ => rfl]
theorem putK_fresh {κ : Type} [DecidableEq κ] {kvs : List (κ × V)} {k : κ} {z : V} (h : ∀ p ∈ kvs, p.1 ≠ k) : putK kvs k z = kvs ++ [(k, z)] := by
  unfold putK
  rw [if_neg ?_]
  intro e
  obtain ⟨p, hp, e2⟩ := List.any_eq_true.mp e
  exact h p hp (of_decide_eq_true e2)
end
theorem cb1 {r : List V → Hp → VK → Prop} {te : TE} {σ : L2.St} {H : Hp} {Q : VK} (h : te σ H fun x H1 => r [x] H1 Q) : tCB r (tCons te tNil) σ H Q := h
theorem if_b {t : TE} {a b : TS} {D : Ends} {σ : L2.St} {H : Hp} (h : t σ H fun x H1 => ∃ c, x = .bl c ∧ (if c = true then a D σ H1 else b D σ H1)) : tIfS (tB t) a b D σ H := h
theorem if_test {t : TE} {a b : TS} {D : Ends} {σ : L2.St} {H : Hp} (h : t σ H fun x H1 => ∃ c, x = .bl c ∧ (if c = true then a D σ H1 else b D σ H1)) : tIfS (tTest t) a b D σ H := h
theorem if_not {t : TE} {a b : TS} {D : Ends} {σ : L2.St} {H : Hp} (h : t σ H fun x H1 => ∃ c, x = .bl c ∧ (if (!c) = true then a D σ H1 else b D σ H1)) : tIfS (tNot (tB t)) a b D σ H := h
theorem next_of {D : Ends} {σ : L2.St} {H : Hp} (h : D.nx σ H) : tNext D σ H := h
section
variable {D : Addr} {H1 : Hp} {te : TE} {i : Nat} {vs : List Nat} {σ : L2.St} {Qd : Hp → Prop} {n : Nat}
/-- [f k for k in range(n)] -/
theorem lc_rng (hD : H1 D = none) (hz : n < sizeLine) (f : Nat → V)
    (hw : ∀ x, wipe ((wipe σ vs).set i (some x)) vs = wipe σ vs)
    (step : ∀ k : Nat, k < n → ∀ H', Same H1 H' → ∀ (N : VK), (∀ H'', Same H' H'' → N (f k) H'') → te ((wipe σ vs).set i (some (.int k))) H' N)
    (fin : ∀ H', Same H1 H' → H' D = some (.lst ((List.range n).map f)) → Qd H') :
    ∃ W : Nat → Nat → Hp → Prop, (∃ m, W 0 m (upd H1 D (.lst []))) ∧ ∀ i' m H, W i' m H →
      ((Itr 0 n).stop i' H ∧ Qd H) ∨ ((Itr 0 n).go i' H ∧ ∃ Nx : Hp → Prop, (∀ H', Nx H' → ∃ m', m' < m ∧ W (i' + 1) m' H') ∧ ∀ x H', (Itr 0 n).yld i' H x H' → gName i x (wipe σ vs) H' fun σ2 H2 => wipe σ2 vs = wipe σ vs ∧ tYes σ2 H2 fun b H3 =>
        if b = true then te σ2 H3 fun y H4 => ∃ acc, H4 D = some (.lst acc) ∧ acc.length < sizeLine ∧ Nx (upd H4 D (.lst (acc ++ [y]))) else Nx H3) := by
  refine lc_range (lo := 0) (fun j H' => Same H1 H' ∧ j ≤ n ∧ H' D = some (.lst ((List.range j).map f))) ⟨same_upd hD, Nat.zero_le _, upd_same⟩ (fun j H' hj pv => ?_) (fun H' pv => fin H' pv.1 pv.2.2)
  rw [Int.zero_add]
  refine ⟨hw _, step j hj H' pv.1 _ fun H3 s3 => ⟨_, s3 _ _ pv.2.2, ?_, same_put hD (Same.trans pv.1 s3), hj, ?_⟩⟩
  · rw [List.length_map, List.length_range]
    exact Nat.lt_trans hj hz
  · rw [upd_same, List.range_succ, List.map_append]
    rfl
end
section
variable {J : It} {G : Hp → Prop} {α : Type} {xs : List α} {v : α → V} {D : Addr} {H1 : Hp} {te : TE} {i : Nat} {vs : List Nat} {σ : L2.St} {Qd : Hp → Prop}
theorem paired_snoc {α β : Type} {F : α → β → Prop} {xs : List α} {ys : List β} {x : α} {y : β} (h : Paired F xs ys) (k : F x y) : Paired F (xs ++ [x]) (ys ++ [y]) := by
  induction h with
  | nil => exact .cons k .nil
  | cons r _ ih => exact .cons r ih
theorem paired_mono {α β : Type} {F G : α → β → Prop} {xs : List α} {ys : List β} (h : Paired F xs ys) (k : ∀ x y, F x y → G x y) : Paired G xs ys := by
  induction h with
  | nil => exact .nil
  | cons r _ ih => exact .cons (k _ _ r) ih
/-- [something made of x for x in xs] -/
theorem lc_obj (w : Walk J xs.length G (YAt (xs.map v))) (hD : H1 D = none) (hG : ∀ H', Same H1 H' → G H') (hz : xs.length < sizeLine) (R : V → α → Hp → Prop) (mono : ∀ y x H H', R y x H → Same H H' → R y x H')
    (hw : ∀ x, wipe ((wipe σ vs).set i (some x)) vs = wipe σ vs)
    (put : ∀ y x (H : Hp) o, R y x H → (∃ ys, H D = some (.lst ys)) → R y x (upd H D (.lst o)))
    (step : ∀ x, x ∈ xs → ∀ H', Same H1 H' → ∀ (N : VK), (∀ y H'', Same H' H'' → R y x H'' → N y H'') → te ((wipe σ vs).set i (some (v x))) H' N)
    (fin : ∀ ys H', Same H1 H' → H' D = some (.lst ys) → Paired (fun y x => R y x H') ys xs → Qd H') :
    ∃ W : Nat → Nat → Hp → Prop, (∃ m, W 0 m (upd H1 D (.lst []))) ∧ ∀ i' m H, W i' m H →
      (J.stop i' H ∧ Qd H) ∨ (J.go i' H ∧ ∃ Nx : Hp → Prop, (∀ H', Nx H' → ∃ m', m' < m ∧ W (i' + 1) m' H') ∧ ∀ x H', J.yld i' H x H' → gName i x (wipe σ vs) H' fun σ2 H2 => wipe σ2 vs = wipe σ vs ∧ tYes σ2 H2 fun b H3 =>
        if b = true then te σ2 H3 fun y H4 => ∃ acc, H4 D = some (.lst acc) ∧ acc.length < sizeLine ∧ Nx (upd H4 D (.lst (acc ++ [y]))) else Nx H3) := by
  refine lc_it w (fun j H' => Same H1 H' ∧ ∃ ys, H' D = some (.lst ys) ∧ ys.length ≤ j ∧ Paired (fun y x => R y x H') ys (xs.take j)) ⟨same_upd hD, [], upd_same, Nat.le_refl _, .nil⟩ (fun j H' _ p => hG H' p.1) (fun j x H' H'' hj pv yv => ?_) (fun H' pv => ?_)
  · obtain ⟨rfl, hx⟩ := yv
    rw [List.getElem?_map, List.getElem?_eq_getElem hj] at hx
    cases hx
    obtain ⟨s1, ys, hy, hl, hp⟩ := pv
    refine ⟨hw _, step xs[j] (List.getElem_mem hj) H'' s1 _ fun y H3 s3 hr => ⟨ys, s3 _ _ hy, by omega, same_put hD (Same.trans s1 s3), ys ++ [y], upd_same, by rw [List.length_append]; show _ + 1 ≤ _; omega, ?_⟩⟩
    rw [List.take_add_one, List.getElem?_eq_getElem hj]
    exact paired_snoc (paired_mono hp fun a b h => put _ _ _ _ (mono _ _ _ _ h s3) ⟨ys, s3 _ _ hy⟩) (put _ _ _ _ hr ⟨ys, s3 _ _ hy⟩)
  · obtain ⟨s1, ys, hy, hl, hp⟩ := pv
    rw [List.take_length] at hp
    exact fin ys H' s1 hy hp
end
section
variable {D : Addr} {H1 : Hp} {te : TE} {i : Nat} {vs : List Nat} {σ : L2.St} {Qd : Hp → Prop} {n : Nat}
/-- [something made at k for k in range(n)] -/
theorem lc_rngO (hD : H1 D = none) (hz : n < sizeLine) (R : V → Nat → Hp → Prop) (mono : ∀ y k H H', R y k H → Same H H' → R y k H') (put : ∀ y k (H : Hp) o, R y k H → H1 D = none → (∃ ys, H D = some (.lst ys)) → Same H1 H → R y k (upd H D (.lst o)))
    (hw : ∀ x, wipe ((wipe σ vs).set i (some x)) vs = wipe σ vs)
    (step : ∀ k : Nat, k < n → ∀ H', Same H1 H' → (∃ ys, H' D = some (.lst ys) ∧ ys.length = k ∧ ∀ j y, ys[j]? = some y → R y j H') → ∀ (N : VK), (∀ y H'', Same H' H'' → R y k H'' → N y H'') → te ((wipe σ vs).set i (some (.int k))) H' N)
    (fin : ∀ ys H', Same H1 H' → H' D = some (.lst ys) → ys.length = n → (∀ k y, ys[k]? = some y → R y k H') → Qd H') :
    ∃ W : Nat → Nat → Hp → Prop, (∃ m, W 0 m (upd H1 D (.lst []))) ∧ ∀ i' m H, W i' m H →
      ((Itr 0 n).stop i' H ∧ Qd H) ∨ ((Itr 0 n).go i' H ∧ ∃ Nx : Hp → Prop, (∀ H', Nx H' → ∃ m', m' < m ∧ W (i' + 1) m' H') ∧ ∀ x H', (Itr 0 n).yld i' H x H' → gName i x (wipe σ vs) H' fun σ2 H2 => wipe σ2 vs = wipe σ vs ∧ tYes σ2 H2 fun b H3 =>
        if b = true then te σ2 H3 fun y H4 => ∃ acc, H4 D = some (.lst acc) ∧ acc.length < sizeLine ∧ Nx (upd H4 D (.lst (acc ++ [y]))) else Nx H3) := by
  refine lc_range (lo := 0) (fun j H' => Same H1 H' ∧ j ≤ n ∧ ∃ ys, H' D = some (.lst ys) ∧ ys.length = j ∧ ∀ k y, ys[k]? = some y → R y k H') ⟨same_upd hD, Nat.zero_le _, [], upd_same, rfl, fun k y h => by simp at h⟩ (fun j H' hj pv => ?_) (fun H' pv => ?_)
  · obtain ⟨s1, _, ys, hy, hl, hR⟩ := pv
    rw [Int.zero_add]
    refine ⟨hw _, step j hj H' s1 ⟨ys, hy, hl, hR⟩ _ fun y H3 s3 hr => ⟨ys, s3 _ _ hy, by omega, same_put hD (Same.trans s1 s3), hj, ys ++ [y], upd_same, by rw [List.length_append, hl]; rfl, fun k z hk => ?_⟩⟩
    have s13 := Same.trans s1 s3
    rcases Nat.lt_or_ge k ys.length with h | h
    · rw [List.getElem?_append_left h] at hk
      exact put _ _ _ _ (mono _ _ _ _ (hR k z hk) s3) hD ⟨_, s3 _ _ hy⟩ s13
    · rw [List.getElem?_append_right h] at hk
      have h0 : k - ys.length = 0 := by
        cases hh : k - ys.length with
        | zero => rfl
        | succ m => rw [hh] at hk; simp at hk
      rw [h0] at hk
      have hkj : k = j := by omega
      cases hk
      subst hkj
      exact put _ _ _ _ hr hD ⟨_, s3 _ _ hy⟩ s13
  · obtain ⟨s1, _, ys, hy, hl, hR⟩ := pv
    exact fin ys H' s1 hy hl hR
end
/-! the last arguments by name, so that a promise is in sight -/
theorem nil_of {σ : L2.St} {H : Hp} {Q : List V → Hp → Prop} (h : Q [] H) : tNil σ H Q := h
theorem lastc {v : V} {σ : L2.St} {H : Hp} {Q : List V → Hp → Prop} (h : Q [v] H) : tCons (tC v) tNil σ H Q := h
end Pu

set_option Elab.async false
set_option linter.all false
set_option maxRecDepth 100000
set_option maxHeartbeats 4000000
/-! texts by their signs -/
namespace Pu
open PySem PySem.Spec PyProof.Rows L2
def cs (z : Str) : List Nat := z.cps.toList
theorem cs_len (z : Str) : (cs z).length = z.length := by
  show z.cps.toList.length = z.cps.size
  rw [Array.length_toList]
theorem cs_app (x y : Str) : cs (x ++ y) = cs x ++ cs y := Array.toList_append
theorem cs_one (c : Nat) : cs ⟨#[c]⟩ = [c] := rfl
theorem cs_nil : cs ("" : Str) = [] := rfl
theorem cs_ext {x y : Str} (h : cs x = cs y) : x = y := by
  obtain ⟨a⟩ := x
  obtain ⟨b⟩ := y
  have e : a = b := Array.toList_inj.mp h
  rw [e]
theorem cs_to (z : Str) (i : Nat) : cs (cutS z none (some (i : Int))) = (cs z).take i := by
  show (List.toArray _).toList = _
  rw [HT.sIx_none, HT.sIx_nat, List.drop_zero, Nat.sub_zero]
  show z.cps.toList.take (min i z.cps.size) = z.cps.toList.take i
  rw [← Array.length_toList, ← List.take_take, List.take_length]
theorem cs_from (z : Str) (i : Nat) : cs (cutS z (some (i : Int)) none) = (cs z).drop i := by
  show (List.toArray _).toList = _
  rw [HT.sIx_none, HT.sIx_nat]
  have hl : z.length = z.cps.toList.length := by rw [Array.length_toList]; rfl
  show (z.cps.toList.drop (min i z.length)).take (z.length - min i z.length) = z.cps.toList.drop i
  rw [hl, List.take_of_length_le (by rw [List.length_drop]; exact Nat.le_refl _)]
  by_cases h : i ≤ z.cps.toList.length
  · rw [Nat.min_eq_left h]
  · rw [Nat.min_eq_right (by omega), List.drop_of_length_le (Nat.le_refl _), List.drop_of_length_le (by omega)]
theorem cs_join0 : ∀ ys : List Str, cs (Txt.join ("" : Str) ys) = ys.flatMap cs := by
  intro ys
  rw [show Txt.join ("" : Str) ys = PySem.Str.join ("" : Str) ys from PySem.StrLaws.glued_eq_join _ _]
  induction ys with
  | nil => rfl
  | cons x r ih =>
    cases r with
    | nil =>
      show cs x = cs x ++ []
      rw [List.append_nil]
    | cons y r =>
      show cs (x ++ ("" : Str) ++ PySem.Str.join ("" : Str) (y :: r)) = _
      rw [cs_app, cs_app, ih, cs_nil, List.append_nil]
      rfl
/-- made of the letters alone -/
def Low (z : Str) : Prop := ∀ c ∈ cs z, c ∈ cs ("abcdefghijklmnopqrstuvwxyz" : Str)
theorem low_app {x y : Str} (hx : Low x) (hy : Low y) : Low (x ++ y) := by
  intro c hc
  rw [cs_app] at hc
  exact (List.mem_append.mp hc).elim (hx c) (hy c)
theorem low_one {c : Nat} (h : c ∈ cs ("abcdefghijklmnopqrstuvwxyz" : Str)) : Low ⟨#[c]⟩ := by
  intro d hd
  rw [cs_one] at hd
  rw [List.mem_singleton.mp hd]
  exact h
theorem low_cut {z : Str} (h : Low z) (lo hi : Option Int) : Low (cutS z lo hi) := fun c hc => h c (List.mem_of_mem_drop (List.mem_of_mem_take hc))
theorem low_join {ys : List Str} (h : ∀ y ∈ ys, Low y) : Low (Txt.join ("" : Str) ys) := by
  intro c hc
  rw [cs_join0] at hc
  obtain ⟨y, hy, hc2⟩ := List.mem_flatMap.mp hc
  exact h y hy c hc2
/-- texts of which no two end with the same sign differ -/
theorem last_ne {x y : Str} {c d : Nat} (h : c ≠ d) : x ++ (⟨#[c]⟩ : Str) ≠ y ++ (⟨#[d]⟩ : Str) := by
  intro e
  have e2 := congrArg cs e
  rw [cs_app, cs_app, cs_one, cs_one] at e2
  have e3 := congrArg List.getLast? e2
  rw [List.getLast?_append, List.getLast?_append] at e3
  exact h (Option.some.inj e3)
/-- nor do texts that differ in a sign within -/
theorem mid_ne {x y : Str} {c d : Nat} {i : Nat} (h : c ≠ d) : cutS x none (some (i : Int)) ++ (⟨#[c]⟩ : Str) ++ y ≠ cutS x none (some (i : Int)) ++ (⟨#[d]⟩ : Str) ++ y := by
  intro e
  have e2 := congrArg cs e
  rw [cs_app, cs_app, cs_app, cs_app, cs_one, cs_one, List.append_assoc, List.append_assoc] at e2
  have e3 := List.append_cancel_left e2
  exact h (List.cons.inj e3).1
/-- the letters that lie three apart, from a drawn one on -/
def let3 (s : Int) (k : Nat) : Nat := (cs ("abcdefghijklmnopqrstuvwxyz" : Str)).getD (((s + 3 * (k : Int)) % 26).toNat) 0
theorem abc_inj : ∀ i < 26, ∀ j < 26, (cs ("abcdefghijklmnopqrstuvwxyz" : Str)).getD i 0 = (cs ("abcdefghijklmnopqrstuvwxyz" : Str)).getD j 0 → i = j := by decide +kernel
theorem let3_ne {s : Int} {j k : Nat} (hj : j < 9) (hk : k < 9) (h : j ≠ k) : let3 s j ≠ let3 s k := by
  intro e
  have h1 := Int.emod_nonneg (s + 3 * (j : Int)) (show (26 : Int) ≠ 0 by decide)
  have h2 := Int.emod_lt_of_pos (s + 3 * (j : Int)) (show (0 : Int) < 26 by decide)
  have h3 := Int.emod_nonneg (s + 3 * (k : Int)) (show (26 : Int) ≠ 0 by decide)
  have h4 := Int.emod_lt_of_pos (s + 3 * (k : Int)) (show (0 : Int) < 26 by decide)
  have := abc_inj _ (by omega) _ (by omega) e
  omega
theorem let3_in {s : Int} {k : Nat} : atI (cs ("abcdefghijklmnopqrstuvwxyz" : Str)) ((s + 3 * (k : Int)) % 26) = some (let3 s k) ∧ let3 s k ∈ cs ("abcdefghijklmnopqrstuvwxyz" : Str) := by
  have h1 := Int.emod_nonneg (s + 3 * (k : Int)) (show (26 : Int) ≠ 0 by decide)
  have h2 := Int.emod_lt_of_pos (s + 3 * (k : Int)) (show (0 : Int) < 26 by decide)
  obtain ⟨v, hv, hm⟩ := pickN (xs := cs ("abcdefghijklmnopqrstuvwxyz" : Str)) h1 (by show _ < (26 : Int); exact h2)
  have e : v = let3 s k := by
    have h5 : atI (cs ("abcdefghijklmnopqrstuvwxyz" : Str)) (((((s + 3 * (k : Int)) % 26).toNat : Nat) : Int)) = some v := by
      rw [Int.toNat_of_nonneg h1]
      exact hv
    have hlt : ((s + 3 * (k : Int)) % 26).toNat < (cs ("abcdefghijklmnopqrstuvwxyz" : Str)).length := by
      show _ < 26
      omega
    rw [atI_nat (List.getElem?_eq_getElem hlt)] at h5
    unfold let3
    rw [List.getD_eq_getElem?_getD, List.getElem?_eq_getElem hlt]
    exact (Option.some.inj h5).symm
  rw [← e]
  exact ⟨hv, hm⟩
end Pu
namespace Pu
open PySem PySem.Spec PyProof.Rows L2
theorem Ext.fresh {b D : Addr} {H H' : Hp} {n : Int} (e : Ext b H H') (B : Box H' b n) (h : H' D = none) : H D = none := by
  cases hh : H D with
  | none => rfl
  | some o =>
    rw [e D o (B.ne h).symm hh] at h
    cases h
/-- letters drawn one by one -/
theorem word_lc {b D : Addr} {n : Int} {m : Nat} {H1 : Hp} {g : TG} {tt : TT} {te : TE} {vs : List Nat} {σ : L2.St} {Qd : Hp → Prop} (hD : H1 D = none) (B : Box H1 b n) (hm : m ≤ 8)
    (step : ∀ (i : Nat) (H' : Hp), i < m → Box H' b (n + i) → ∀ (N : VK) (M : Hp → Prop), (∀ c H'', c ∈ cs ("abcdefghijklmnopqrstuvwxyz" : Str) → Box H'' b (n + i + 1) → Ext b H' H'' → N (.str ⟨#[c]⟩) H'') →
      g (.int (0 + i)) (wipe σ vs) H' fun σ2 H2 => wipe σ2 vs = wipe σ vs ∧ tt σ2 H2 fun b H3 => if b = true then te σ2 H3 N else M H3)
    (fin : ∀ (ys : List Str) (H' : Hp), Box H' b (n + m) → Ext b H1 H' → ys.length = m → (∀ y ∈ ys, y.length = 1 ∧ Low y) → H' D = some (.lst (ys.map V.str)) → Qd H') :
    ∃ W : Nat → Nat → Hp → Prop, (∃ m, W 0 m (upd H1 D (.lst []))) ∧ ∀ i m' H, W i m' H →
      ((Itr 0 m).stop i H ∧ Qd H) ∨ ((Itr 0 m).go i H ∧ ∃ Nx : Hp → Prop, (∀ H', Nx H' → ∃ m'', m'' < m' ∧ W (i + 1) m'' H') ∧ ∀ x H', (Itr 0 m).yld i H x H' → g x (wipe σ vs) H' fun σ2 H2 => wipe σ2 vs = wipe σ vs ∧ tt σ2 H2 fun b H3 =>
        if b = true then te σ2 H3 fun y H4 => ∃ acc, H4 D = some (.lst acc) ∧ acc.length < sizeLine ∧ Nx (upd H4 D (.lst (acc ++ [y]))) else Nx H3) := by
  have hbD : b ≠ D := B.ne hD
  refine lc_range (fun i H' => Box H' b (n + i) ∧ Ext b H1 H' ∧ ∃ ys : List Str, ys.length = i ∧ (∀ y ∈ ys, y.length = 1 ∧ Low y) ∧ H' D = some (.lst (ys.map V.str))) ⟨(B.new hD).mono (by omega), Ext.new hD, [], rfl, fun _ h => absurd h List.not_mem_nil, upd_same⟩ (fun i H' hi p => step i H' hi p.1 _ _ fun c H'' hc B2 e2 => ?_) (fun H' p => ?_)
  · obtain ⟨B1, e1, ys, hl, h1, hD1⟩ := p
    refine ⟨ys.map V.str, e2 _ _ hbD.symm hD1, ?_, (B2.upd hbD).mono (by omega), (e1.trans e2).mut hD, ys ++ [⟨#[c]⟩], by rw [List.length_append, hl]; rfl, fun y hy => ?_, ?_⟩
    · rw [List.length_map]
      exact Nat.lt_of_lt_of_le (by omega) (sz 100)
    · rcases List.mem_append.mp hy with hy | hy
      · exact h1 y hy
      · rw [List.mem_singleton.mp hy]
        exact ⟨rfl, low_one hc⟩
    · rw [upd_same, List.map_append]
      rfl
  · obtain ⟨B1, e1, ys, hl, h1, hD1⟩ := p
    exact fin ys H' B1 e1 hl h1 hD1
theorem Box.same {H H' : Hp} {b : Addr} {n : Int} (h : Box H b n) (s : Same H H') : Box H' b n := by
  obtain ⟨x, y, z, e, r⟩ := h
  exact ⟨x, y, z, s _ _ e, r⟩
end Pu

set_option Elab.async false
set_option linter.all false
set_option maxRecDepth 100000
set_option maxHeartbeats 4000000
/-! comprehensions whose items draw from a box -/
namespace Pu
open PySem PySem.Spec PyProof.Rows L2
section
variable {α : Type} {b D : Addr} {n c : Int} {H1 : Hp} {te : TE} {i : Nat} {vs : List Nat} {σ : L2.St} {Qd : Hp → Prop}
/-- [something made of x for x in xs], xs a list -/
theorem lc_boxW {J : It} {G : Hp → Prop} {xs : List α} {v : α → V} (hc : 0 ≤ c) (w : Walk J xs.length G (YAt (xs.map v))) (hD : H1 D = none) (B : Box H1 b n) (hG : ∀ H', Ext b H1 H' → G H') (hz : xs.length < sizeLine)
    (R : V → α → Hp → Prop) (mono : ∀ y x H H', R y x H → Ext b H H' → R y x H')
    (hw : ∀ x, wipe ((wipe σ vs).set i (some x)) vs = wipe σ vs)
    (put : ∀ y x (H : Hp) o, R y x H → (∃ ys, H D = some (.lst ys)) → R y x (upd H D (.lst o)))
    (step : ∀ (j : Nat) x, xs[j]? = some x → ∀ H', Ext b H1 H' → Box H' b (n + c * j) → ∀ (N : VK), (∀ y H'', Ext b H' H'' → Box H'' b (n + c * (j + 1 : Nat)) → R y x H'' → N y H'') → te ((wipe σ vs).set i (some (v x))) H' N)
    (fin : ∀ ys H', Ext b H1 H' → Box H' b (n + c * xs.length) → H' D = some (.lst ys) → Paired (fun y x => R y x H') ys xs → Qd H') :
    ∃ W : Nat → Nat → Hp → Prop, (∃ m, W 0 m (upd H1 D (.lst []))) ∧ ∀ i' m H, W i' m H →
      (J.stop i' H ∧ Qd H) ∨ (J.go i' H ∧ ∃ Nx : Hp → Prop, (∀ H', Nx H' → ∃ m', m' < m ∧ W (i' + 1) m' H') ∧ ∀ x H', J.yld i' H x H' → gName i x (wipe σ vs) H' fun σ2 H2 => wipe σ2 vs = wipe σ vs ∧ tYes σ2 H2 fun b H3 =>
        if b = true then te σ2 H3 fun y H4 => ∃ acc, H4 D = some (.lst acc) ∧ acc.length < sizeLine ∧ Nx (upd H4 D (.lst (acc ++ [y]))) else Nx H3) := by
  have hbD : b ≠ D := B.ne hD
  refine lc_it w (fun j H' => Ext b H1 H' ∧ Box H' b (n + c * j) ∧ ∃ ys, H' D = some (.lst ys) ∧ ys.length ≤ j ∧ Paired (fun y x => R y x H') ys (xs.take j)) ⟨Ext.new hD, by have := B.new (o := .lst []) hD; simpa using this, [], upd_same, Nat.le_refl _, .nil⟩ (fun j H' _ p => hG H' p.1) (fun j x H' H'' hj pv yv => ?_) (fun H' pv => ?_)
  · obtain ⟨rfl, hx⟩ := yv
    rw [List.getElem?_map, List.getElem?_eq_getElem hj] at hx
    cases hx
    obtain ⟨e1, B1, ys, hy, hl, hp⟩ := pv
    refine ⟨hw _, step j xs[j] (List.getElem?_eq_getElem hj) H'' e1 B1 _ fun y H3 e3 B3 hr => ⟨ys, e3 _ _ hbD.symm hy, by omega, (e1.trans e3).mut hD, B3.upd hbD, ys ++ [y], upd_same, by rw [List.length_append]; show _ + 1 ≤ _; omega, ?_⟩⟩
    rw [List.take_add_one, List.getElem?_eq_getElem hj]
    exact paired_snoc (paired_mono hp fun a b' h => put _ _ _ _ (mono _ _ _ _ h e3) ⟨ys, e3 _ _ hbD.symm hy⟩) (put _ _ _ _ hr ⟨ys, e3 _ _ hbD.symm hy⟩)
  · obtain ⟨e1, B1, ys, hy, hl, hp⟩ := pv
    rw [List.take_length] at hp
    exact fin ys H' e1 B1 hy hp
/-- [something made at k for k in range(m)] -/
theorem lc_boxR {m : Nat} (hc : 0 ≤ c) (hD : H1 D = none) (B : Box H1 b n) (hz : m < sizeLine)
    (R : V → Nat → Hp → Prop) (mono : ∀ y x H H', R y x H → Ext b H H' → R y x H')
    (hw : ∀ x, wipe ((wipe σ vs).set i (some x)) vs = wipe σ vs)
    (put : ∀ y x (H : Hp) o, R y x H → (∃ ys, H D = some (.lst ys)) → R y x (upd H D (.lst o)))
    (step : ∀ (j : Nat), j < m → ∀ H', Ext b H1 H' → Box H' b (n + c * j) → ∀ (N : VK), (∀ y H'', Ext b H' H'' → Box H'' b (n + c * (j + 1 : Nat)) → R y j H'' → N y H'') → te ((wipe σ vs).set i (some (.int j))) H' N)
    (fin : ∀ ys H', Ext b H1 H' → Box H' b (n + c * m) → H' D = some (.lst ys) → ys.length = m → (∀ k y, ys[k]? = some y → R y k H') → Qd H') :
    ∃ W : Nat → Nat → Hp → Prop, (∃ m, W 0 m (upd H1 D (.lst []))) ∧ ∀ i' m' H, W i' m' H →
      ((Itr 0 m).stop i' H ∧ Qd H) ∨ ((Itr 0 m).go i' H ∧ ∃ Nx : Hp → Prop, (∀ H', Nx H' → ∃ m'', m'' < m' ∧ W (i' + 1) m'' H') ∧ ∀ x H', (Itr 0 m).yld i' H x H' → gName i x (wipe σ vs) H' fun σ2 H2 => wipe σ2 vs = wipe σ vs ∧ tYes σ2 H2 fun b H3 =>
        if b = true then te σ2 H3 fun y H4 => ∃ acc, H4 D = some (.lst acc) ∧ acc.length < sizeLine ∧ Nx (upd H4 D (.lst (acc ++ [y]))) else Nx H3) := by
  have hbD : b ≠ D := B.ne hD
  refine lc_range (lo := 0) (fun j H' => Ext b H1 H' ∧ Box H' b (n + c * j) ∧ ∃ ys, H' D = some (.lst ys) ∧ ys.length = j ∧ ∀ k y, ys[k]? = some y → R y k H') ⟨Ext.new hD, by have := B.new (o := .lst []) hD; simpa using this, [], upd_same, rfl, fun k y h => by simp at h⟩ (fun j H' hj pv => ?_) (fun H' pv => ?_)
  · obtain ⟨e1, B1, ys, hy, hl, hR⟩ := pv
    rw [Int.zero_add]
    refine ⟨hw _, step j hj H' e1 B1 _ fun y H3 e3 B3 hr => ⟨ys, e3 _ _ hbD.symm hy, by omega, (e1.trans e3).mut hD, B3.upd hbD, ys ++ [y], upd_same, by rw [List.length_append, hl]; rfl, fun k z hk => ?_⟩⟩
    rcases Nat.lt_or_ge k ys.length with h | h
    · rw [List.getElem?_append_left h] at hk
      exact put _ _ _ _ (mono _ _ _ _ (hR k z hk) e3) ⟨_, e3 _ _ hbD.symm hy⟩
    · rw [List.getElem?_append_right h] at hk
      have h0 : k - ys.length = 0 := by
        cases hh : k - ys.length with
        | zero => rfl
        | succ m => rw [hh] at hk; simp at hk
      rw [h0] at hk
      have hkj : k = j := by omega
      cases hk
      subst hkj
      exact put _ _ _ _ hr ⟨_, e3 _ _ hbD.symm hy⟩
  · obtain ⟨e1, B1, ys, hy, hl, hR⟩ := pv
    exact fin ys H' e1 B1 hy hl hR
end
end Pu

set_option Elab.async false
set_option linter.all false
set_option maxRecDepth 100000
set_option maxHeartbeats 4000000
/-! methods of built-in values within comprehensions: the fragment is named, so that the reading knows no block -/
namespace Pu
open PySem PySem.Spec PyProof.Rows L2
section
variable {X : Cx} {K : PySem.W.Frag} {o e : Expr} {es : List Expr} {to : TE} {t : TA} {name : Str} {apos cpos : Pos} {T id : String} {r : V → List V → Hp → VK → Prop}
theorem pe_bmK (K : PySem.W.Frag) (pa : PlainAttrs T) (slot : Slot T name id) (hty : typeOf (.builtin id) = pure (.type "method_descriptor")) (hm : MtR X id r) (ho : PE X o to) (ha : PA X (e :: es) t) (hK : X.K = K := by rfl)
    (hbase : attributeBase o name X.env (eval o X.env) = eval o X.env := by rfl)
    (hfew : ((backTo cpos (starEach (e :: es) X.env)).all (fun x => !x.1) && (backToKw cpos (keywordEach [] X.env)).all (fun x => x.1.isSome)
      && decide ((e :: es).length + ([] : List Keyword).length + (if ([] : List Keyword).isEmpty then 0 else 1) < 30)) = true := by rfl)
    (hline : (apos.endLine == cpos.line) = true := by rfl) (hs : starEach (e :: es) X.env = (false, eval e X.env) :: starEach es X.env := by rfl) (hplain : (backTo cpos (starEach es X.env)).any (·.1) = false := by rfl) :
    PE X (.Call (.Attribute o name apos) (e :: es) [] cpos) (tBM K T r to t) := by
  subst hK
  exact pe_bm pa slot hty hm ho ha hbase hfew hline hs hplain
theorem pe_bm0K (K : PySem.W.Frag) (pa : PlainAttrs T) (slot : Slot T name id) (hty : typeOf (.builtin id) = pure (.type "method_descriptor")) (hm : MtR X id r) (ho : PE X o to) (hK : X.K = K := by rfl)
    (hbase : attributeBase o name X.env (eval o X.env) = eval o X.env := by rfl) (hline : (apos.endLine == cpos.line) = true := by rfl) : PE X (.Call (.Attribute o name apos) [] [] cpos) (tBM0 K T r to) := by
  subst hK
  exact pe_bm0 pa slot hty hm ho hbase hline
end
/-! ### letters that lie some way apart -/
def letS (s t : Int) (k : Nat) : Nat := (cs ("abcdefghijklmnopqrstuvwxyz" : Str)).getD (((s + t * (k : Int)) % 26).toNat) 0
theorem letS_ne {s t : Int} {j k : Nat} (ht : t = 1 ∨ t = 3 ∨ t = 5 ∨ t = 7 ∨ t = 9 ∨ t = 11) (hj : j < 8) (hk : k < 8) (h : j ≠ k) : letS s t j ≠ letS s t k := by
  intro e
  have h1 := Int.emod_nonneg (s + t * (j : Int)) (show (26 : Int) ≠ 0 by decide)
  have h2 := Int.emod_lt_of_pos (s + t * (j : Int)) (show (0 : Int) < 26 by decide)
  have h3 := Int.emod_nonneg (s + t * (k : Int)) (show (26 : Int) ≠ 0 by decide)
  have h4 := Int.emod_lt_of_pos (s + t * (k : Int)) (show (0 : Int) < 26 by decide)
  have := abc_inj _ (by omega) _ (by omega) e
  rcases ht with rfl | rfl | rfl | rfl | rfl | rfl <;> omega
theorem letS_in {s t : Int} {k : Nat} : atI (cs ("abcdefghijklmnopqrstuvwxyz" : Str)) ((s + t * (k : Int)) % 26) = some (letS s t k) ∧ letS s t k ∈ cs ("abcdefghijklmnopqrstuvwxyz" : Str) := by
  have h1 := Int.emod_nonneg (s + t * (k : Int)) (show (26 : Int) ≠ 0 by decide)
  have h2 := Int.emod_lt_of_pos (s + t * (k : Int)) (show (0 : Int) < 26 by decide)
  obtain ⟨v, hv, hm⟩ := pickN (xs := cs ("abcdefghijklmnopqrstuvwxyz" : Str)) h1 (by show _ < (26 : Int); exact h2)
  have e : v = letS s t k := by
    have h5 : atI (cs ("abcdefghijklmnopqrstuvwxyz" : Str)) (((((s + t * (k : Int)) % 26).toNat : Nat) : Int)) = some v := by
      rw [Int.toNat_of_nonneg h1]
      exact hv
    have hlt : ((s + t * (k : Int)) % 26).toNat < (cs ("abcdefghijklmnopqrstuvwxyz" : Str)).length := by
      show _ < 26
      omega
    rw [atI_nat (List.getElem?_eq_getElem hlt)] at h5
    unfold letS
    rw [List.getD_eq_getElem?_getD, List.getElem?_eq_getElem hlt]
    exact (Option.some.inj h5).symm
  rw [← e]
  exact ⟨hv, hm⟩
/-- a stem and a sign, or the sign alone -/
def Nm (S : Str) (c : Nat) (z : Str) : Prop := (cs z).Perm (c :: cs S) ∨ cs z = [c]
theorem nm_ne {S z : Str} {c d : Nat} (h1 : Nm S c z) (h2 : Nm S d z) : c = d := by
  rcases h1 with h1 | h1
  · rcases h2 with h2 | h2
    · have h3 := (h1.symm.trans h2).count_eq c
      rw [List.count_cons_self, List.count_cons] at h3
      by_cases e : d = c
      · exact e.symm
      · rw [if_neg (by simpa using e)] at h3
        omega
    · rw [h2] at h1
      have h4 := h1.length_eq
      have h5 := h1.mem_iff (a := c)
      simp only [List.mem_cons, List.not_mem_nil, or_false, true_or, iff_true] at h5
      exact h5
  · rcases h2 with h2 | h2
    · rw [h1] at h2
      have h5 := h2.mem_iff (a := d)
      simp only [List.mem_cons, List.not_mem_nil, or_false, true_or, iff_true] at h5
      exact h5.symm
    · rw [h1] at h2
      exact (List.cons.inj h2).1
theorem nm_app {S : Str} {c : Nat} : Nm S c (S ++ (⟨#[c]⟩ : Str)) := by
  refine .inl ?_
  rw [cs_app, cs_one]
  exact List.perm_append_comm
theorem nm_pre {S : Str} {c : Nat} : Nm S c ((⟨#[c]⟩ : Str) ++ S) := by
  refine .inl ?_
  rw [cs_app, cs_one]
  exact List.Perm.refl _
theorem nm_one {S : Str} {c : Nat} : Nm S c (⟨#[c]⟩ : Str) := .inr (cs_one c)
end Pu

set_option Elab.async false
set_option linter.all false
set_option maxRecDepth 100000
set_option maxHeartbeats 4000000
namespace Pk
open PySem PySem.Spec PyProof.Rows L2 Pu
abbrev s_law_mixed : Stmt := topS 71
theorem sc_law_mixed : FnScope ["_law_box_here", "_law_some", "_law_left", "_law_k"] ["_law_box_here", "_law_some"] (defScope s_law_mixed) := ⟨rfl, rfl, rfl, by decide +kernel, rfl, by decide +kernel, by decide +kernel⟩

section
variable {P : Program} {w : World} {K : PySem.W.Frag} {mg : Str → Option Value} {base : Heap}
/-! ### in another order -/
theorem eraseIdx_perm {α : Type} : ∀ {l : List α} {k : Nat} {y : α}, l[k]? = some y → (y :: l.eraseIdx k).Perm l
  | x :: r, 0, y, h => by
    cases h
    exact List.Perm.refl _
  | x :: r, k + 1, y, h => by
    have ih := eraseIdx_perm (l := r) (k := k) (y := y) h
    show (y :: x :: r.eraseIdx k).Perm (x :: r)
    exact (List.Perm.swap x y _).trans (ih.cons x)
theorem seqIndex_nat {k n : Nat} (h : k < n) : seqIndex? (k : Int) n = some k := by
  unfold seqIndex?
  have h1 : ¬ ((k : Int) < 0) := by omega
  have h2 : ((k : Int) < (n : Int)) := by omega
  simp only [if_neg h1, Int.natCast_nonneg, decide_true, Bool.true_and, decide_eq_true h2, if_true, Int.toNat_natCast]
def spShuf (K : PySem.W.Frag) : Sp := fun vs H Q _ => ∃ (b a : Addr) (xs : List V) (n : Int), vs = [.ref b, .ref a] ∧ Sq K H a xs ∧ xs.length ≤ 100 ∧ n ≤ 900000 ∧ Box H b n ∧
  ∀ l ys H', Box H' b (n + xs.length) → Pu.Ext b H H' → H l = none → H' l = some (.lst ys) → ys.Perm xs → Q (.ref l) H'
theorem ok_mixed {f : Addr} {fd : FuncData} (F : Fun K "_law_mixed" "_law_mixed" s_law_mixed f fd) (T : Txt mg) (claw_take : Cal P w K mg base 1 "_law_take" spTake []) : FnOk P w K mg base CX0 2 f fd ["_law_box_here", "_law_some"] (spShuf K) := by
  have nd := sc_law_mixed.nd
  refine F.ok sc_law_mixed (fun vs H Q E h => ?_) (fun cdv A outer s H vs Q E hr h => ?_)
  · obtain ⟨_, _, _, _, rfl, _⟩ := h
    rfl
  · obtain ⟨b, a, xs, n, rfl, hq, hx, hn, hB, q⟩ := h
    refine ⟨_, (pss_cons (ps_set (i := 2) nd rfl (Or.inr rfl) (pe_callTy (lstOf K) (by rfl) T.m_list PyProof.Rows.boot_list (pa_cons (pv 1) pa_nil)))
      (pss_one (ps_ret (pe_lc (own := [("_law_k", 3)]) (g := gName 3) (tt := tYes) rfl nd (pi_range1 rfl T.m_range (pa_cons (pe_callB (lenK K) (by rfl) T.m_len PySem.boot_len (pa_cons (pv 1) pa_nil)) pa_nil)) (blkOk_by (N := ["_law_box_here", "_law_some", "_law_left", "_law_k"]) (sc := defScope s_law_mixed) (by decide +kernel)) (fun _ _ _ _ _ => pg_name (i := 3) nd rfl (Or.inl rfl)) (fun _ _ _ _ _ => pts_nil) (fun _ _ _ _ _ => (pe_bmK K PySem.F.plainAttrs_list PySem.F.slot_list_pop PySem.F.type_list_pop mt_popAt (pv 2) (pa_cons (pe_c claw_take hr (by decide) rfl (pa_cons (pv 0) (pa_cons (pe_callB (lenK K) (by rfl) T.m_len PySem.boot_len (pa_cons (pv 2) pa_nil)) pa_nil))) pa_nil))))))), ?_⟩
    refine ⟨_, rfl, a, xs, rfl, hq, fun l nl => ?_⟩
    have s0 : Same H (upd H l (.lst xs)) := same_upd nl
    have hl0 : (upd H l (.lst xs)) l = some (.lst xs) := upd_same
    have B0 : Box (upd H l (.lst xs)) b n := hB.new nl
    have hbl : b ≠ l := hB.ne nl
    revert s0 hl0 B0
    generalize upd H l (.lst xs) = H0
    intro s0 hl0 B0
    refine ⟨_, rfl, .inl ⟨a, xs, rfl, sq_same hq s0, _, rfl, by omega, by omega, fun D hD => ?_⟩⟩
    have nD : H D = none := s0.free hD
    have hlD : l ≠ D := ne_of_none hl0 hD
    have hbD : b ≠ D := hB.ne nD
    refine lc_range (lo := 0) (n := xs.length) (fun i H' => Box H' b (n + i) ∧ Pu.Ext b H H' ∧ ∃ ls fs, (ls ++ fs).Perm xs ∧ ls.length + i = xs.length ∧ H' l = some (.lst ls) ∧ H' D = some (.lst fs))
      ⟨(B0.new hD).mono (by omega), fun x o _ h => same_upd hD _ _ (s0 x o h), xs, [], by rw [List.append_nil], by omega, by rw [upd_ne hlD]; exact hl0, upd_same⟩ (fun i H1 hi pv => ?_) (fun H1 pv => ?_)
    · obtain ⟨B1, e1, ls, fs, hp, hln, hl1, hf1⟩ := pv
      refine ⟨rfl, _, rfl, .inl ⟨rfl, _, .inl (.inl hl1)⟩, _, rfl, _, rfl, .inl ⟨l, _, rfl, .inl (.inl (.inl hl1)), b, _, _, rfl, by omega, by omega, by omega, B1, fun d H2 g1 g2 B2 e2 => ?_⟩⟩
      obtain ⟨k, rfl⟩ := Int.eq_ofNat_of_zero_le g1
      have hk : k < ls.length := by omega
      have hl2 := e2 _ _ hbl.symm hl1
      have hf2 := e2 _ _ hbD.symm hf1
      refine ⟨l, ls, _, k, ls[k], rfl, rfl, hl2, by omega, by omega, seqIndex_nat hk, List.getElem?_eq_getElem hk, fs, ?_, ?_, ?_⟩
      · rw [upd_ne hlD.symm]
        exact hf2
      · have := hp.length_eq
        rw [List.length_append] at this
        exact Nat.lt_of_lt_of_le (by omega) (sz 1000)
      · refine ⟨((B2.upd hbl).upd hbD).mono (by omega), ((e1.trans e2).mut nl).mut nD, ls.eraseIdx k, fs ++ [ls[k]], ?_, ?_, ?_, upd_same⟩
        · have h1 := eraseIdx_perm (List.getElem?_eq_getElem hk)
          have h2 : (ls.eraseIdx k ++ (fs ++ [ls[k]])).Perm (ls[k] :: ls.eraseIdx k ++ fs) := by
            rw [← List.append_assoc]
            exact List.perm_append_comm.trans (List.Perm.refl _)
          exact h2.trans ((h1.append_right fs).trans hp)
        · rw [List.length_eraseIdx, if_pos hk]
          omega
        · rw [upd_ne hlD, upd_same]
    · obtain ⟨B1, e1, ls, fs, hp, hln, hl1, hf1⟩ := pv
      have h0 : ls = [] := List.eq_nil_of_length_eq_zero (by omega)
      subst h0
      exact q D fs H1 B1 e1 nD hf1 hp

end
end Pk

set_option Elab.async false
set_option linter.all false
set_option maxRecDepth 100000
set_option maxHeartbeats 4000000
namespace Pk
open PySem PySem.Spec PyProof.Rows L2 Pu
abbrev s_law_names : Stmt := topS 72
theorem sc_law_names : FnScope ["_law_box_here", "_law_many", "_law_letters", "_law_stem", "_law_first", "_law_step", "_law_way", "_law_found", "_law_k", "_law_sign"] ["_law_box_here", "_law_many"] (defScope s_law_names) := ⟨rfl, rfl, rfl, by decide +kernel, rfl, by decide +kernel, by decide +kernel⟩

section
variable {P : Program} {w : World} {K : PySem.W.Frag} {mg : Str → Option Value} {base : Heap}
/-! ### names that differ -/
theorem name_ok {z : Str} (h : Low z) (h1 : 1 ≤ z.length) (h2 : z.length ≤ 8) : nameOk z = true := by
  rw [nameOk_of h1 h2, List.all_eq_true]
  intro c hc
  exact decide_eq_true (h c hc)
def spNames : Sp := fun vs H Q _ => ∃ (b : Addr) (m : Nat) (n : Int), vs = [.ref b, .int m] ∧ 1 ≤ m ∧ m ≤ 8 ∧ n ≤ 900000 ∧ Box H b n ∧
  ∀ l es H', Box H' b (n + 4) → Ext b H H' → H l = none → H' l = some (.lst (es.map V.str)) → EvsOk es → es.length = m → Q (.ref l) H'
theorem stem_in : ∀ v ∈ [V.str "", .str "a", .str "tie", .str "load", .str "limit", .str "zzzzzzz"], ∃ z : Str, v = .str z ∧ z.length ≤ 7 ∧ Low z := by
  intro v hv
  simp only [List.mem_cons, List.not_mem_nil, or_false] at hv
  rcases hv with rfl | rfl | rfl | rfl | rfl | rfl <;> exact ⟨_, rfl, by decide +kernel, by unfold Low; decide +kernel⟩
theorem ok_names {f : Addr} {fd : FuncData} (F : Fun K "_law_names" "_law_names" s_law_names f fd) (T : Txt mg) (claw_take : Cal P w K mg base 1 "_law_take" spTake []) : FnOk P w K mg base CX0 2 f fd ["_law_box_here", "_law_many"] spNames := by
  have nd := sc_law_names.nd
  refine F.ok sc_law_names (fun vs H Q E h => ?_) (fun cdv A outer s H vs Q E hr h => ?_)
  · obtain ⟨_, _, _, rfl, _⟩ := h
    rfl
  · obtain ⟨b, m, n, rfl, hm1, hm8, hn, hB, q⟩ := h
    refine ⟨_, (pss_cons (ps_set (i := 2) nd rfl (Or.inl rfl) pe_str)
      (pss_cons (ps_set (i := 3) nd rfl (Or.inl rfl) (pe_ix (ixL K) (pe_lst (pa_cons pe_str (pa_cons pe_str (pa_cons pe_str (pa_cons pe_str (pa_cons pe_str (pa_cons pe_str pa_nil))))))) (pe_c claw_take hr (by decide) rfl (pa_cons (pv 0) (pa_cons pe_int pa_nil))) (fun _ _ => rfl)))
      (pss_cons (ps_par3 (i := 4) (j := 5) (l := 6) rfl nd rfl rfl rfl (by decide) (by decide) (by decide) rfl rfl rfl (pa_cons (pe_c claw_take hr (by decide) rfl (pa_cons (pv 0) (pa_cons pe_int pa_nil))) (pa_cons (pe_ix (ixL K) (pe_lst (pa_cons pe_int (pa_cons pe_int (pa_cons pe_int (pa_cons pe_int (pa_cons pe_int (pa_cons pe_int pa_nil))))))) (pe_c claw_take hr (by decide) rfl (pa_cons (pv 0) (pa_cons pe_int pa_nil))) (fun _ _ => rfl)) (pa_cons (pe_c claw_take hr (by decide) rfl (pa_cons (pv 0) (pa_cons pe_int pa_nil))) pa_nil))) (by rfl))
      (pss_cons (ps_set (i := 7) nd rfl (Or.inl rfl) (pe_lst pa_nil))
      (pss_cons (ps_for PassesOwn.never rfl (pi_range1 rfl T.m_range (pa_cons (pv 1) pa_nil)) (pg_name (i := 8) nd rfl (Or.inl rfl))
      (pss_cons (ps_set (i := 9) nd rfl (Or.inl rfl) (pe_ix ix_str (pv 2) (pe_op op_mod (pe_op oAdd (pv 4) (pe_op op_mul (pv 5) (pv 8))) pe_int) (fun _ _ => rfl)))
      (pss_one (ps_expr (pe_bm PySem.F.plainAttrs_list PySem.F.slot_list_append PySem.F.type_list_append mt_append (pv 7) (pa_cons (pe_ix (ixL K) (pe_lst (pa_cons (pe_op oAdd (pv 3) (pv 9)) (pa_cons (pe_op oAdd (pv 9) (pv 3)) (pa_cons (pv 9) pa_nil)))) (pe_ifExp (pt_cmpR op_gt (pv 8) pe_int (by rfl)) (pv 6) pe_int) (fun _ _ => rfl)) pa_nil))))))
      (pss_one (ps_ret (pv 7)))))))), ?_⟩
    refine ⟨sz 6, fun L hL => ⟨_, rfl, b, 6, _, rfl, by decide, by decide, by omega, hB.new hL, fun d H1 g1 g2 B1 e1 => ?_⟩⟩
    have hbL := hB.ne hL
    have hL1 := e1 _ _ hbL.symm upd_same
    obtain ⟨v, hv, hvm⟩ := pickN (xs := [V.str "", .str "a", .str "tie", .str "load", .str "limit", .str "zzzzzzz"]) g1 (by show d < 6; exact g2)
    obtain ⟨S, rfl, hS7, hSl⟩ := stem_in v hvm
    refine ⟨L, _, _, _, rfl, rfl, .inl (.inl hL1), hv, ?_⟩
    have e01 : Ext b H H1 := (Ext.new hL).trans e1
    refine ⟨_, rfl, b, 26, _, rfl, by decide, by decide, by omega, B1, fun s0 H2 f1 f2 B2 e2 => ⟨sz 6, fun L2 hL2 => ⟨_, rfl, b, 6, _, rfl, by decide, by decide, by omega, B2.new hL2, fun d2 H3 k1 k2 B3 e3 => ?_⟩⟩⟩
    have hbL2 := B2.ne hL2
    have hL3 := e3 _ _ hbL2.symm upd_same
    obtain ⟨v2, hv2, hvm2⟩ := pickN (xs := [V.int 1, .int 3, .int 5, .int 7, .int 9, .int 11]) k1 (by show d2 < 6; exact k2)
    obtain ⟨t, rfl, ht⟩ : ∃ t : Int, v2 = .int t ∧ (t = 1 ∨ t = 3 ∨ t = 5 ∨ t = 7 ∨ t = 9 ∨ t = 11) := by
      simp only [List.mem_cons, List.not_mem_nil, or_false] at hvm2
      rcases hvm2 with rfl | rfl | rfl | rfl | rfl | rfl <;> exact ⟨_, rfl, by decide⟩
    have ht0 : 0 < t ∧ t < 12 := by rcases ht with h | h | h | h | h | h <;> subst h <;> decide
    refine ⟨L2, _, _, _, rfl, rfl, .inl (.inl hL3), hv2, ?_⟩
    have e03 : Ext b H H3 := e01.trans (e2.trans ((Ext.new hL2).trans e3))
    refine ⟨_, rfl, b, 3, _, rfl, by decide, by decide, by omega, B3, fun wy H4 w1 w2 B4 e4 => ?_⟩
    have e04 := e03.trans e4
    refine ⟨_, _, _, rfl, sz 0, fun fl nfl => ?_⟩
    have fl0 : H fl = none := e04.fresh B4 nfl
    have hbf : b ≠ fl := B4.ne nfl
    have B5 : Box (upd H4 fl (.lst [])) b (n + 4) := (B4.new nfl).mono (by omega)
    have e05 : Ext b H (upd H4 fl (.lst [])) := e04.trans (Ext.new nfl)
    have f5 : (upd H4 fl (.lst [])) fl = some (.lst []) := upd_same
    revert B5 e05 f5
    generalize upd H4 fl (.lst []) = H5
    clear hL1 hL3 e01 e03 e04 e1 e2 e3 e4 B1 B2 B3 B4 hv hv2 hvm hvm2 hL hL2 nfl hbL hbL2 g1 g2 k1 k2
    intro B5 e05 f5
    refine ⟨_, rfl, m, rfl, by omega, by omega, for_range (fun i σ H' => Box H' b (n + 4) ∧ Pu.Ext b H H' ∧ ∃ es v8 v9, es.length = i ∧ (∀ e ∈ es, Low e ∧ 1 ≤ e.length ∧ e.length ≤ 8) ∧ (∀ j e, es[j]? = some e → Nm S (letS s0 t j) e) ∧ H' fl = some (.lst (es.map V.str)) ∧
      σ = [some (.ref b), some (.int m), some (.str "abcdefghijklmnopqrstuvwxyz"), some (.str S), some (.int s0), some (.int t), some (.int wy), some (.ref fl), v8, v9]) ⟨B5, e05, [], none, none, rfl, fun _ h => absurd h List.not_mem_nil, fun j e h => (by simp at h), f5, rfl⟩ (fun i σ H6 hi pv => ?_) (fun σ H6 pv => ?_)⟩
    · obtain ⟨B6, e6, es, v8, v9, hl6, hes, hlast, hf6, rfl⟩ := pv
      rw [Int.zero_add]
      obtain ⟨hat, hmem⟩ := letS_in (s := s0) (t := t) (k := i)
      refine ⟨_, rfl, _, rfl, _, rfl, _, rfl, _, _, rfl, rfl, .inl ⟨by omega, by omega⟩, .inl ⟨_, _, rfl, rfl, _, _, rfl, rfl, (by show (0 : Int) < 26; decide), _, _, letS s0 t i, rfl, rfl, by decide +kernel, hat, ?_⟩⟩
      have lc1 : ((⟨#[letS s0 t i]⟩ : Str)).length = 1 := rfl
      have fin : ∀ (z : Str) (L : Addr) (o : HO), Nm S (letS s0 t i) z → Low z → 1 ≤ z.length → z.length ≤ 8 → H6 L = none → Box (upd (upd H6 L o) fl (.lst (es.map V.str ++ [.str z]))) b (n + 4) ∧ Pu.Ext b H (upd (upd H6 L o) fl (.lst (es.map V.str ++ [.str z]))) ∧ ∃ (es' : List Str) (v8 v9 : Option V), es'.length = i + 1 ∧ (∀ e ∈ es', Low e ∧ 1 ≤ e.length ∧ e.length ≤ 8) ∧ (∀ j e, es'[j]? = some e → Nm S (letS s0 t j) e) ∧ (upd (upd H6 L o) fl (.lst (es.map V.str ++ [.str z]))) fl = some (.lst (es'.map V.str)) ∧
          [some (V.ref b), some (.int m), some (.str "abcdefghijklmnopqrstuvwxyz"), some (.str S), some (.int s0), some (.int t), some (.int wy), some (.ref fl), some (.int i), some (.str ⟨#[letS s0 t i]⟩)] = [some (.ref b), some (.int m), some (.str "abcdefghijklmnopqrstuvwxyz"), some (.str S), some (.int s0), some (.int t), some (.int wy), some (.ref fl), v8, v9] := fun z L o hz hlw h1 h8 hL => by
        refine ⟨(B6.new hL).upd hbf, (e6.trans (Ext.new hL)).mut fl0, es ++ [z], _, _, by rw [List.length_append, hl6]; rfl, fun e he => ?_, fun j e hj => ?_, ?_, rfl⟩
        · rcases List.mem_append.mp he with h | h
          · exact hes e h
          · rw [List.mem_singleton.mp h]
            exact ⟨hlw, h1, h8⟩
        · rcases Nat.lt_or_ge j es.length with h | h
          · rw [List.getElem?_append_left h] at hj
            exact hlast j e hj
          · rw [List.getElem?_append_right h] at hj
            have hj2 : j - es.length = 0 := by
              cases hjj : j - es.length with
              | zero => rfl
              | succ k => rw [hjj] at hj; simp at hj
            rw [hj2] at hj
            have hj3 : j = i := by omega
            subst hj3
            exact Option.some.inj hj ▸ hz
        · rw [upd_same, List.map_append]
          rfl
      have hs1 : (S ++ (⟨#[letS s0 t i]⟩ : Str)).length = S.length + 1 := by rw [len_app]; rfl
      have hs2 : ((⟨#[letS s0 t i]⟩ : Str) ++ S).length = S.length + 1 := by rw [len_app]; show 1 + _ = _; omega
      have c1 : Low (⟨#[letS s0 t i]⟩ : Str) := low_one hmem
      refine ⟨_, rfl, .inl ⟨rfl, _, .inl (.inl hf6)⟩, _, rfl, _, rfl, .inr (.inl ⟨_, _, rfl, rfl, ?_, _, rfl, _, rfl, .inr (.inl ⟨_, _, rfl, rfl, ?_, _, rfl, sz 3, fun L hL => ?_⟩)⟩)⟩
      · show _ + 1 ≤ _
        exact sz _ (by omega)
      · show 1 + _ ≤ _
        exact sz _ (by omega)
      have hLL : (upd H6 L (.lst [.str (S ++ (⟨#[letS s0 t i]⟩ : Str)), .str ((⟨#[letS s0 t i]⟩ : Str) ++ S), .str ⟨#[letS s0 t i]⟩])) L = some (.lst [.str (S ++ (⟨#[letS s0 t i]⟩ : Str)), .str ((⟨#[letS s0 t i]⟩ : Str) ++ S), .str ⟨#[letS s0 t i]⟩]) := upd_same
      have hfL : (upd H6 L (.lst [.str (S ++ (⟨#[letS s0 t i]⟩ : Str)), .str ((⟨#[letS s0 t i]⟩ : Str) ++ S), .str ⟨#[letS s0 t i]⟩])) fl = some (.lst (es.map V.str)) := same_upd hL _ _ hf6
      have hel : (es.map V.str).length < sizeLine := by
        rw [List.length_map]
        exact Nat.lt_of_lt_of_le (by omega) (sz 100)
      have end1 : ∀ (j : Int), 0 ≤ j → j < 3 → ∃ z : Str, atI [V.str (S ++ (⟨#[letS s0 t i]⟩ : Str)), .str ((⟨#[letS s0 t i]⟩ : Str) ++ S), .str ⟨#[letS s0 t i]⟩] j = some (.str z) ∧ Nm S (letS s0 t i) z ∧ Low z ∧ 1 ≤ z.length ∧ z.length ≤ 8 := fun j j0 j3 => by
        obtain ⟨v, hv, hvm⟩ := pickN (xs := [V.str (S ++ (⟨#[letS s0 t i]⟩ : Str)), .str ((⟨#[letS s0 t i]⟩ : Str) ++ S), .str ⟨#[letS s0 t i]⟩]) j0 (by show j < 3; exact j3)
        simp only [List.mem_cons, List.not_mem_nil, or_false] at hvm
        rcases hvm with rfl | rfl | rfl
        · exact ⟨_, hv, nm_app, low_app hSl c1, by omega, by omega⟩
        · exact ⟨_, hv, nm_pre, low_app c1 hSl, by omega, by omega⟩
        · exact ⟨_, hv, nm_one, c1, by omega, by omega⟩
      refine ⟨_, rfl, _, _, rfl, rfl, _, rfl, ite2 (fun ek => ?_) (fun ek => ?_)⟩
      · obtain ⟨z, hz, hn, hlw, h1, h8⟩ := end1 wy w1 w2
        exact ⟨_, rfl, L, _, _, _, rfl, rfl, .inl (.inl hLL), hz, fl, _, _, rfl, rfl, hfL, hel, fin z L _ hn hlw h1 h8 hL⟩
      · obtain ⟨z, hz, hn, hlw, h1, h8⟩ := end1 0 (by decide) (by decide)
        exact ⟨L, _, _, _, rfl, rfl, .inl (.inl hLL), hz, fl, _, _, rfl, rfl, hfL, hel, fin z L _ hn hlw h1 h8 hL⟩
    · obtain ⟨B6, e6, es, v8, v9, hl6, hes, hlast, hf6, rfl⟩ := pv
      refine ⟨_, rfl, q fl es H6 B6 e6 fl0 hf6 ⟨by omega, by omega, fun e he => name_ok (hes e he).1 (hes e he).2.1 (hes e he).2.2, ?_⟩ hl6⟩
      rw [List.nodup_iff_pairwise_ne, List.pairwise_iff_getElem]
      intro j k hj hk hjk he
      have h1 := hlast j _ (List.getElem?_eq_getElem hj)
      have h2 := hlast k _ (List.getElem?_eq_getElem hk)
      rw [he] at h1
      exact letS_ne ht (by omega) (by omega) (by omega) (nm_ne h1 h2)

end
end Pk

set_option Elab.async false
set_option linter.all false
set_option maxRecDepth 100000
set_option maxHeartbeats 4000000
namespace Pk
open PySem PySem.Spec PyProof.Rows L2 Pu
abbrev s_law_lag : Stmt := topS 73
theorem sc_law_lag : FnScope ["_law_box_here"] ["_law_box_here"] (defScope s_law_lag) := ⟨rfl, rfl, rfl, by decide +kernel, rfl, by decide +kernel, by decide +kernel⟩
abbrev s_law_model : Stmt := topS 74
theorem sc_law_model : FnScope ["_law_box_here", "_law_many", "_law_most", "_law_marks", "_law_order", "_law_cords", "_law_caps", "_law_k", "_law_one", "_law_other", "_law_lag_here", "_law_event"] ["_law_box_here", "_law_many", "_law_most"] (defScope s_law_model) := ⟨rfl, rfl, rfl, by decide +kernel, rfl, by decide +kernel, by decide +kernel⟩

section
variable {P : Program} {w : World} {K : PySem.W.Frag} {mg : Str → Option Value} {base : Heap}
/-! ### the law's own plan -/
theorem TiesAt.keep {H H' : Hp} {ts : List Addr} {ties : List (Str × Str × Int)} (h : TiesAt H ts ties) (k : ∀ x ∈ ts, ∀ r, H x = some (.tup r) → H' x = some (.tup r)) : TiesAt H' ts ties := by
  unfold TiesAt at *
  induction h with
  | nil => exact .nil
  | @cons a t as bs r _ ih => exact .cons (k _ (List.mem_cons_self ..) _ r) (ih fun x hx => k x (List.mem_cons_of_mem _ hx))
theorem TiesAt.snoc {H : Hp} {ts : List Addr} {ties : List (Str × Str × Int)} {a : Addr} {t : Str × Str × Int} (h : TiesAt H ts ties) (ha : H a = some (.tup (rowV t))) : TiesAt H (ts ++ [a]) (ties ++ [t]) := by
  unfold TiesAt at *
  induction h with
  | nil => exact .cons ha .nil
  | cons r _ ih => exact .cons r ih
/-- a plan as the law holds it, apart from the box at b -/
def ModAt (b : Addr) (H : Hp) (m : Addr) (d : PlanD) : Prop := ∃ (e t c : Addr) (ts : List Addr), H m = some (.lst [.ref e, .ref t, .ref c]) ∧ H e = some (.lst (d.evs.map V.str)) ∧ H t = some (.lst (ts.map V.ref)) ∧ TiesAt H ts d.ties ∧ H c = some (.dK (capsV d.caps)) ∧ m ≠ b ∧ e ≠ b ∧ t ≠ b ∧ c ≠ b ∧ ∀ x ∈ ts, x ≠ b
theorem ModAt.ext {b m : Addr} {H H' : Hp} {d : PlanD} (h : ModAt b H m d) (e : Pu.Ext b H H') : ModAt b H' m d := by
  obtain ⟨e1, t, c, ts, h1, h2, h3, h4, h5, n1, n2, n3, n4, n5⟩ := h
  exact ⟨e1, t, c, ts, e _ _ n1 h1, e _ _ n2 h2, e _ _ n3 h3, h4.keep fun x hx r hr => e _ _ (n5 x hx) hr, e _ _ n4 h5, n1, n2, n3, n4, n5⟩
theorem same_ext {b : Addr} {H H' : Hp} (s : Same H H') : Pu.Ext b H H' := fun a o _ h => s a o h
theorem ModAt.same {b m : Addr} {H H' : Hp} {d : PlanD} (h : ModAt b H m d) (s : Same H H') : ModAt b H' m d := h.ext (same_ext s)
def idxS : List Str → Str → Nat
  | [], _ => 0
  | y :: r, x => if y = x then 0 else idxS r x + 1
theorem idxS_get : ∀ {os : List Str} {x : Str}, x ∈ os → os[idxS os x]? = some x ∧ ∀ m, m < idxS os x → ∀ z, os[m]? = some z → z ≠ x
  | y :: r, x, h => by
    unfold idxS
    by_cases e : y = x
    · rw [if_pos e]
      exact ⟨by rw [e]; rfl, fun m hm => absurd hm (Nat.not_lt_zero _)⟩
    · rw [if_neg e]
      have hx : x ∈ r := by
        rcases List.mem_cons.mp h with h | h
        · exact absurd h.symm e
        · exact h
      obtain ⟨h1, h2⟩ := idxS_get hx
      refine ⟨h1, fun m hm z hz => ?_⟩
      cases m with
      | zero => cases hz; exact e
      | succ m => exact h2 m (by omega) z hz
theorem eqV_str (a b : Str) : eqV (.str a) (.str b) = decide (a = b) := by
  show (a == b) = _
  rw [Bool.eq_iff_iff, beq_iff_eq, decide_eq_true_iff]
theorem strs_get {os : List Str} {i : Nat} {z : V} (h : (os.map V.str)[i]? = some z) : ∃ s, os[i]? = some s ∧ z = .str s := by
  rw [List.getElem?_map] at h
  cases e : os[i]? with
  | none => rw [e] at h; cases h
  | some s =>
    rw [e] at h
    cases h
    exact ⟨s, rfl, rfl⟩
/-- what list.index of a text in a list of texts asks -/
theorem idx_at {os : List Str} {x : Str} (hx : x ∈ os) : (os.map V.str)[idxS os x]? = some (.str x) ∧ eqV (.str x) (.str x) = true ∧ ∀ (m : Nat) (z' : V), m < idxS os x → (os.map V.str)[m]? = some z' → eqV z' (.str x) = false := by
  obtain ⟨h1, h2⟩ := idxS_get hx
  refine ⟨by rw [List.getElem?_map, h1]; rfl, by rw [eqV_str]; exact decide_eq_true rfl, fun m z' hm hz => ?_⟩
  obtain ⟨s, hs, rfl⟩ := strs_get hz
  rw [eqV_str]
  exact decide_eq_false (h2 m hm s hs)
def unS : V → Str
  | .str s => s
  | _ => ""
theorem perm_strs {ys : List V} {es : List Str} (h : ys.Perm (es.map V.str)) : ∃ sh : List Str, ys = sh.map V.str ∧ sh.Perm es := by
  refine ⟨ys.map unS, ?_, ?_⟩
  · rw [List.map_map]
    have : ∀ y ∈ ys, (V.str ∘ unS) y = y := by
      intro y hy
      obtain ⟨s, _, rfl⟩ := List.mem_map.mp (h.mem_iff.mp hy)
      rfl
    rw [List.map_congr_left this, List.map_id']
  · have := h.map unS
    rw [List.map_map] at this
    have e : es.map (unS ∘ V.str) = es := by
      rw [show (unS ∘ V.str) = id from rfl, List.map_id]
    rw [e] at this
    exact this
/-! ### a drawn lag -/
def bigL : Int := 10 ^ 28
def spLag : Sp := fun vs H Q _ => ∃ (b : Addr) (n : Int), vs = [.ref b] ∧ n ≤ 900000 ∧ Box H b n ∧ ∀ i H', 0 ≤ i → i ≤ bigL → Box H' b (n + 2) → Pu.Ext b H H' → Q (.int i) H'
theorem ok_lag {f : Addr} {fd : FuncData} (F : Fun K "_law_lag" "_law_lag" s_law_lag f fd) (T : Txt mg) (claw_take : Cal P w K mg base 1 "_law_take" spTake []) : FnOk P w K mg base CX0 2 f fd ["_law_box_here"] spLag := by
  have nd := sc_law_lag.nd
  refine F.ok sc_law_lag (fun vs H Q E h => ?_) (fun cdv A outer s H vs Q E hr h => ?_)
  · obtain ⟨_, _, rfl, _⟩ := h
    rfl
  · obtain ⟨b, n, rfl, hn, hB, q⟩ := h
    refine ⟨_, (pss_one (ps_ret (pe_ix (ixL K) (pe_lst (pa_cons pe_int (pa_cons pe_int (pa_cons pe_int (pa_cons pe_int (pa_cons pe_int (pa_cons pe_int (pa_cons pe_int (pa_cons (pe_op op_mul (pe_c claw_take hr (by decide) rfl (pa_cons (pv 0) (pa_cons (pe_op op_pow pe_int pe_int) pa_nil))) (pe_op op_pow pe_int pe_int)) pa_nil))))))))) (pe_c claw_take hr (by decide) rfl (pa_cons (pv 0) (pa_cons pe_int pa_nil))) (fun _ _ => rfl)))), ?_⟩
    refine ⟨_, rfl, _, _, rfl, rfl, ⟨by decide, by decide, by decide⟩, b, _, _, rfl, by decide, by decide, by omega, hB, fun dg H1 f1 f2 B1 e1 => ⟨_, _, rfl, rfl, ⟨by decide, by decide, by decide⟩, _, _, rfl, rfl, ?_, sz 8, fun L hL => ⟨_, rfl, b, 8, _, rfl, by decide, by decide, by omega, B1.new hL, fun d8 H2 k1 k2 B2 e2 => ?_⟩⟩⟩
    · have f2 : dg < 1000000000000 := f2
      exact .inl ⟨by omega, by omega⟩
    have hbL := B1.ne hL
    have hL2 := e2 _ _ hbL.symm upd_same
    have f2 : dg < 1000000000000 := f2
    obtain ⟨v, hv, hvm⟩ := pickN (xs := [V.int 0, .int 0, .int 1, .int 1, .int 2, .int 3, .int 5, .int (dg * 10 ^ 15)]) k1 (by show d8 < 8; exact k2)
    obtain ⟨i, rfl, i0, i1⟩ : ∃ i : Int, v = .int i ∧ 0 ≤ i ∧ i ≤ bigL := by
      have hbig : bigL = 10000000000000000000000000000 := by decide
      have hmul : dg * 10 ^ 15 = dg * 1000000000000000 := rfl
      simp only [List.mem_cons, List.not_mem_nil, or_false] at hvm
      rcases hvm with rfl | rfl | rfl | rfl | rfl | rfl | rfl | rfl
      all_goals refine ⟨_, rfl, ?_, ?_⟩ <;> omega
    exact ⟨L, _, _, _, rfl, rfl, .inl (.inl hL2), hv, q i H2 i0 i1 (B2.mono (by omega)) (e1.trans ((Pu.Ext.new hL).trans e2))⟩
/-! ### the law's own plan, drawn -/
structure LMod (d : PlanD) (m mo : Nat) : Prop where
  ok : PlanOk d
  len : d.evs.length = m
  tl : d.ties.length ≤ mo
  lag : ∀ t ∈ d.ties, t.2.2 ≤ bigL
  cap : ∀ c ∈ d.caps, c.2 ≤ bigL
def spModel : Sp := fun vs H Q _ => ∃ (b : Addr) (m mo : Nat) (n : Int), vs = [.ref b, .int m, .int mo] ∧ 1 ≤ m ∧ m ≤ 8 ∧ mo ≤ 60 ∧ n ≤ 800000 ∧ Box H b n ∧
  ∀ q d H', Box H' b (n + 600) → Pu.Ext b H H' → H q = none → ModAt b H' q d → LMod d m mo → Q (.ref q) H'
theorem pick_str {es : List Str} {i : Int} (h0 : 0 ≤ i) (h1 : i < es.length) : ∃ x, atI (es.map V.str) i = some (.str x) ∧ x ∈ es := by
  obtain ⟨v, hv, hm⟩ := pickN (xs := es.map V.str) h0 (by rw [List.length_map]; exact h1)
  obtain ⟨x, hx, rfl⟩ := List.mem_map.mp hm
  exact ⟨x, hv, hx⟩
def TieOk (es os : List Str) (t : Str × Str × Int) : Prop := t.1 ∈ es ∧ t.2.1 ∈ es ∧ 0 ≤ t.2.2 ∧ t.2.2 ≤ bigL ∧ (t.2.2 = 0 → idxS os t.1 < idxS os t.2.1)
def PInv1 (b l o tl cp : Addr) (m mo : Nat) (es os : List Str) (H : Hp) (n : Int) (i : Nat) (σ : L2.St) (H' : Hp) : Prop := Box H' b (n + 30 + 5 * i) ∧ Pu.Ext b H H' ∧ H' l = some (.lst (es.map V.str)) ∧ H' o = some (.lst (os.map V.str)) ∧ H' cp = some (.dK []) ∧
  ∃ (ts : List Addr) (ties : List (Str × Str × Int)) (v7 v8 v9 v10 : Option V), ties.length = i ∧ H' tl = some (.lst (ts.map V.ref)) ∧ TiesAt H' ts ties ∧ (∀ x ∈ ts, x ≠ b) ∧ (∀ t ∈ ties, TieOk es os t) ∧
    σ = [some (.ref b), some (.int m), some (.int mo), some (.ref l), some (.ref o), some (.ref tl), some (.ref cp), v7, v8, v9, v10, none]
def PInv2 (b l o tl cp : Addr) (m mo : Nat) (sh : List Str) (es : List Str) (ts : List Addr) (ties : List (Str × Str × Int)) (H : Hp) (n : Int) (l2 : Addr) (i : Nat) (σ : L2.St) (H' : Hp) : Prop := Box H' b (n + 400 + 5 * i) ∧ Pu.Ext b H H' ∧ H' l = some (.lst (es.map V.str)) ∧ H' tl = some (.lst (ts.map V.ref)) ∧ TiesAt H' ts ties ∧ H' l2 = some (.lst (sh.map V.str)) ∧
  ∃ (cs : List (Str × Int)) (v7 v8 v9 v10 v11 : Option V), H' cp = some (.dK (capsV cs)) ∧ cs.length ≤ i ∧ (∀ c ∈ cs, c.1 ∈ sh.take i ∧ 0 ≤ c.2 ∧ c.2 ≤ bigL) ∧ (cs.map (·.1)).Nodup ∧
    σ = [some (.ref b), some (.int m), some (.int mo), some (.ref l), some (.ref o), some (.ref tl), some (.ref cp), v7, v8, v9, v10, v11]
theorem ok_model {f : Addr} {fd : FuncData} (F : Fun K "_law_model" "_law_model" s_law_model f fd) (T : Txt mg) (claw_take : Cal P w K mg base 1 "_law_take" spTake []) (claw_names : Cal P w K mg base 2 "_law_names" spNames []) (claw_mixed : Cal P w K mg base 2 "_law_mixed" (spShuf K) [])
    (claw_lag : Cal P w K mg base 2 "_law_lag" spLag []) : FnOk P w K mg base CX0 3 f fd ["_law_box_here", "_law_many", "_law_most"] spModel := by
  have nd := sc_law_model.nd
  refine F.ok sc_law_model (fun vs H Q E h => ?_) (fun cdv A outer s H vs Q E hr h => ?_)
  · obtain ⟨_, _, _, _, rfl, _⟩ := h
    rfl
  · obtain ⟨b, m, mo, n, rfl, hm1, hm8, hmo, hn, hB, q⟩ := h
    have hu := hu_of hr
    refine ⟨_, (pss_cons (ps_set (i := 3) nd rfl (Or.inl rfl) (pe_c claw_names hr (by decide) rfl (pa_cons (pv 0) (pa_cons (pv 1) pa_nil))))
      (pss_cons (ps_par3 (i := 4) (j := 5) (l := 6) rfl nd rfl rfl rfl (by decide) (by decide) (by decide) rfl rfl rfl (pa_cons (pe_c claw_mixed hr (by decide) rfl (pa_cons (pv 0) (pa_cons (pv 3) pa_nil))) (pa_cons (pe_lst pa_nil) (pa_cons pe_dnewK pa_nil))) (by rfl))
      (pss_cons (ps_for PassesOwn.never rfl (pi_range1 rfl T.m_range (pa_cons (pe_c claw_take hr (by decide) rfl (pa_cons (pv 0) (pa_cons (pe_op oAdd (pv 2) pe_int) pa_nil))) pa_nil)) (pg_name (i := 7) nd rfl (Or.inl rfl))
      (pss_cons (ps_par (i := 8) (j := 9) rfl nd rfl rfl (by decide) rfl rfl (pa_cons (pe_ix (ixL K) (pv 3) (pe_c claw_take hr (by decide) rfl (pa_cons (pv 0) (pa_cons (pv 1) pa_nil))) (fun _ _ => rfl)) (pa_cons (pe_ix (ixL K) (pv 3) (pe_c claw_take hr (by decide) rfl (pa_cons (pv 0) (pa_cons (pv 1) pa_nil))) (fun _ _ => rfl)) pa_nil)) (by rfl))
      (pss_cons (ps_set (i := 10) nd rfl (Or.inl rfl) (pe_c claw_lag hr (by decide) rfl (pa_cons (pv 0) pa_nil)))
      (pss_cut (ps_if (PW.pt (pw_and (pt_cmpR op_eq (pv 10) pe_int (by rfl)) (pw_and1 (pt_cmpR op_ge (pe_bm PySem.F.plainAttrs_list PySem.F.slot_list_index PySem.F.type_list_index mt_index (pv 4) (pa_cons (pv 8) pa_nil)) (pe_bm PySem.F.plainAttrs_list PySem.F.slot_list_index PySem.F.type_list_index mt_index (pv 4) (pa_cons (pv 9) pa_nil)) (by rfl)))))
      (pss_one (ps_set (i := 10) nd rfl (Or.inl rfl) pe_int)) pss_nil)
      (pss_one (ps_expr (pe_bm PySem.F.plainAttrs_list PySem.F.slot_list_append PySem.F.type_list_append mt_append (pv 5) (pa_cons (pe_tup (pa_cons (pv 8) (pa_cons (pv 9) (pa_cons (pv 10) pa_nil)))) pa_nil))))))))
      (pss_cons (ps_for PassesOwn.never rfl (pi_list (pe_c claw_mixed hr (by decide) rfl (pa_cons (pv 0) (pa_cons (pv 3) pa_nil)))) (pg_name (i := 11) nd rfl (Or.inl rfl))
      (pss_one (ps_if (pt_cmpR op_eq (pe_c claw_take hr (by decide) rfl (pa_cons (pv 0) (pa_cons pe_int pa_nil))) pe_int (by rfl))
      (pss_one (ps_dput hu (pv 6) (pv 11) (pe_ix (ixL K) (pe_lst (pa_cons pe_int (pa_cons pe_int (pa_cons pe_int (pa_cons pe_int (pa_cons pe_int (pa_cons (pe_op op_mul (pe_c claw_take hr (by decide) rfl (pa_cons (pv 0) (pa_cons (pe_op op_pow pe_int pe_int) pa_nil))) (pe_op op_pow pe_int pe_int)) pa_nil))))))) (pe_c claw_take hr (by decide) rfl (pa_cons (pv 0) (pa_cons pe_int pa_nil))) (fun _ _ => rfl)) rfl)) pss_nil)))
      (pss_one (ps_ret (pe_lst (pa_cons (pv 3) (pa_cons (pv 5) (pa_cons (pv 6) pa_nil)))))))))), ?_⟩
    refine ⟨_, rfl, _, rfl, b, m, n, rfl, by omega, by omega, by omega, hB, fun l es H2 B2 e02 l0 hl ho hln => ?_⟩
    have hbl : b ≠ l := hB.ne l0
    have hlo := ho.lo
    have hhi := ho.hi
    refine ⟨_, rfl, _, rfl, b, l, es.map V.str, _, rfl, .inl (.inl (.inl hl)), by rw [List.length_map]; omega, by omega, B2, fun o ys H3 B3 e3 no ho3 hperm => ⟨sz 0, fun tl ntl => fun cp ncp => ⟨_, _, _, rfl, ?_⟩⟩⟩
    obtain ⟨os, rfl, hos⟩ := perm_strs hperm
    rw [List.length_map] at B3
    have hbo : b ≠ o := B2.ne no
    have o0 : H o = none := e02.fresh B2 no
    have hbt : b ≠ tl := B3.ne ntl
    have t0 : H tl = none := (e02.trans e3).fresh B3 ntl
    have B4 := B3.new (o := .lst []) ntl
    have e04 := (e02.trans e3).trans (Pu.Ext.new (o := .lst []) ntl)
    have hbc : b ≠ cp := B4.ne ncp
    have c0 : H cp = none := e04.fresh B4 ncp
    have B5 := B4.new (o := .dK []) ncp
    have e05 := e04.trans (Pu.Ext.new (o := .dK []) ncp)
    have s35 : Same H3 (upd (upd H3 tl (.lst [])) cp (.dK [])) := Same.trans (same_upd ntl) (same_upd ncp)
    have hl5 := s35 _ _ (e3 _ _ hbl.symm hl)
    have ho5 := s35 _ _ ho3
    have ht5 : (upd (upd H3 tl (.lst [])) cp (.dK [])) tl = some (.lst []) := same_upd ncp _ _ upd_same
    have hc5 : (upd (upd H3 tl (.lst [])) cp (.dK [])) cp = some (.dK []) := upd_same
    have hlt : l ≠ tl := fun e => by
      rw [← e, e3 _ _ hbl.symm hl] at ntl
      cases ntl
    have hot : o ≠ tl := fun e => by
      rw [← e, ho3] at ntl
      cases ntl
    revert B5 e05 hl5 ho5 ht5 hc5
    clear s35 e04 B4 ho3 ncp ntl
    generalize upd (upd H3 tl (.lst [])) cp (.dK []) = H5
    intro B5 e05 hl5 ho5 ht5 hc5
    clear e3 no hl B3 B2 hperm H3 H2 e02
    have hz : (es.map V.str).length = es.length := List.length_map ..
    refine ⟨_, rfl, _, rfl, .inl ⟨_, _, rfl, rfl, b, _, _, rfl, by omega, by omega, by omega, B5, fun d1 H6 g1 g2 B6 e6 => ?_⟩⟩
    obtain ⟨k1, rfl⟩ := Int.eq_ofNat_of_zero_le g1
    have hk1 : k1 ≤ mo := by omega
    refine ⟨k1, rfl, by omega, by omega, for_range (n := k1) (PInv1 b l o tl cp m mo es os H n) ⟨B6.mono (by omega), e05.trans e6, e6 _ _ hbl.symm hl5, e6 _ _ hbo.symm ho5, e6 _ _ hbc.symm hc5, [], [], none, none, none, none, rfl, e6 _ _ hbt.symm ht5, .nil, fun _ h => absurd h List.not_mem_nil, fun _ h => absurd h List.not_mem_nil, rfl⟩ (fun i σ H7 hi pv => ?_) (fun σ H7 pv => ?_)⟩
    · obtain ⟨B7, e7, hl7, ho7, hc7, ts, ties, v8, v9, v10, v11, hti, ht7, hT7, hTb, hTk, rfl⟩ := pv
      rw [Int.zero_add]
      refine ⟨_, rfl, _, rfl, _, rfl, b, m, _, rfl, by omega, by omega, by omega, B7, fun p1 H8 i1 i2 B8 e8 => ?_⟩
      rw [← hln] at i2
      obtain ⟨x, hx, hxm⟩ := pick_str (es := es) i1 i2
      have hl8 := e8 _ _ hbl.symm hl7
      refine ⟨l, _, _, .str x, rfl, rfl, .inl (.inl hl8), hx, _, rfl, _, rfl, _, rfl, b, m, _, rfl, by omega, by omega, by omega, B8, fun p2 H9 j1 j2 B9 e9 => ?_⟩
      rw [← hln] at j2
      obtain ⟨y, hy, hym⟩ := pick_str (es := es) j1 j2
      have hl9 := e9 _ _ hbl.symm hl8
      refine ⟨l, _, _, .str y, rfl, rfl, .inl (.inl hl9), hy, _, _, rfl, ?_⟩
      refine ⟨_, rfl, b, _, rfl, by omega, B9, fun lg H11 hlg0 hlg1 B11 e10 => ?_⟩
      have e711 : Pu.Ext b H7 H11 := e8.trans (e9.trans e10)
      have hx2 : x ∈ os := hos.mem_iff.mpr hxm
      have hy2 : y ∈ os := hos.mem_iff.mpr hym
      have ho11 := e711 _ _ hbo.symm ho7
      refine ⟨fun σ' H' => Box H' b (n + 30 + 5 * i + 4) ∧ Pu.Ext b H7 H' ∧ ∃ lg' : Int, 0 ≤ lg' ∧ lg' ≤ bigL ∧ (lg' = 0 → idxS os x < idxS os y) ∧ σ' = [some (.ref b), some (.int m), some (.int mo), some (.ref l), some (.ref o), some (.ref tl), some (.ref cp), some (.int i), some (.str x), some (.str y), some (.int lg'), none], ?_, ?_⟩
      · refine ⟨_, rfl, rfl, _, rfl, ite2 (fun e0 => ?_) (fun e0 => ?_)⟩
        · refine ⟨_, rfl, .inl ⟨rfl, _, .inl (.inl ho11)⟩, _, rfl, o, _, _, idxS os x, .str x, rfl, rfl, .inl (.inl ho11), rfl, flat_strs _, (idx_at hx2).1, (idx_at hx2).2.1, (idx_at hx2).2.2, ?_⟩
          refine ⟨_, rfl, .inl ⟨rfl, _, .inl (.inl ho11)⟩, _, rfl, o, _, _, idxS os y, .str y, rfl, rfl, .inl (.inl ho11), rfl, flat_strs _, (idx_at hy2).1, (idx_at hy2).2.1, (idx_at hy2).2.2, ?_⟩
          refine ⟨_, _, rfl, rfl, _, rfl, ite2 (fun e2 => ?_) (fun e2 => ?_)⟩
          · have hbig : bigL = 10000000000000000000000000000 := by decide
            exact ⟨B11.mono (by omega), e711, 1, by decide, by omega, fun z => absurd z (by decide), rfl⟩
          · refine ⟨B11.mono (by omega), e711, lg, hlg0, hlg1, fun _ => ?_, rfl⟩
            have : ¬ ((idxS os y : Int) ≤ (idxS os x : Int)) := fun z => e2 (decide_eq_true z)
            omega
        · refine ⟨B11.mono (by omega), e711, lg, hlg0, hlg1, fun z => ?_, rfl⟩
          subst z
          exact absurd (decide_eq_true rfl) e0
      · rintro σ' H12 ⟨B12, e12, lg', g0, g1, gr, rfl⟩
        have ht12 := e12 _ _ hbt.symm ht7
        refine ⟨_, rfl, .inl ⟨rfl, _, .inl (.inl ht12)⟩, _, rfl, _, rfl, _, rfl, sz 3, fun Tn hTn => ⟨tl, _, _, rfl, rfl, same_upd hTn _ _ ht12, ?_, ?_⟩⟩
        · rw [List.length_map]
          have := hT7.length
          exact Nat.lt_of_lt_of_le (by omega) (sz 1000)
        have sT : Same H12 (upd H12 Tn (.tup [.str x, .str y, .int lg'])) := same_upd hTn
        have hbTn : b ≠ Tn := B12.ne hTn
        have hTT := (hT7.keep fun z hz r hr => e12 _ _ (hTb z hz) hr).same sT
        have key : ∀ a u, a ≠ tl → (upd H12 Tn (.tup [.str x, .str y, .int lg'])) a = some u → (upd (upd H12 Tn (.tup [.str x, .str y, .int lg'])) tl (.lst (ts.map V.ref ++ [.ref Tn]))) a = some u := fun a u ha h => by
          rw [upd_ne ha]
          exact h
        have nT : Tn ≠ tl := fun e => by
          rw [e, ht12] at hTn
          cases hTn
        refine ⟨((B12.new hTn).upd hbt).mono (by omega), ((e7.trans e12).trans (Pu.Ext.new hTn)).mut t0, key _ _ hlt (sT _ _ (e12 _ _ hbl.symm hl7)), key _ _ hot (sT _ _ (e12 _ _ hbo.symm ho7)), key _ _ (fun e => by rw [← e, e12 _ _ hbc.symm hc7] at ht12; cases ht12) (sT _ _ (e12 _ _ hbc.symm hc7)), ts ++ [Tn], ties ++ [(x, y, lg')], _, _, _, _, by rw [List.length_append, hti]; rfl, by rw [upd_same, List.map_append]; rfl, ?_, ?_, ?_, rfl⟩
        · refine TiesAt.snoc (hTT.keep fun z hz r hr => key _ _ (fun e => ?_) hr) (key _ _ nT upd_same)
          rw [e, sT _ _ ht12] at hr
          cases hr
        · intro z hz
          rcases List.mem_append.mp hz with h | h
          · exact hTb z h
          · rw [List.mem_singleton.mp h]
            exact hbTn.symm
        · intro t ht
          rcases List.mem_append.mp ht with h | h
          · exact hTk t h
          · rw [List.mem_singleton.mp h]
            exact ⟨hxm, hym, g0, g1, gr⟩
    · obtain ⟨B7, e7, hl7, ho7, hc7, ts, ties, v8, v9, v10, v11, hti, ht7, hT7, hTb, hTk, rfl⟩ := pv
      have e7s : ∀ {H' : Hp}, Pu.Ext b H7 H' → TiesAt H' ts ties := fun e => hT7.keep fun z hz r hr => e _ _ (hTb z hz) hr
      refine ⟨_, rfl, _, rfl, b, l, es.map V.str, _, rfl, .inl (.inl (.inl hl7)), by rw [List.length_map]; omega, by omega, B7, fun l2 ys H8 B8 e8 nl2 hl28 hperm2 => ⟨l2, rfl, ⟨_, .inl (.inl hl28)⟩, ?_⟩⟩
      obtain ⟨sh, rfl, hsh⟩ := perm_strs hperm2
      rw [List.length_map] at B8
      have hshl : sh.length = es.length := hsh.length_eq
      have hshn : sh.Nodup := hsh.nodup_iff.mpr ho.nd
      have hb2 : b ≠ l2 := B7.ne nl2
      have l20 : H l2 = none := e7.fresh B7 nl2
      have ht8 := e8 _ _ hbt.symm ht7
      have hc8 := e8 _ _ hbc.symm hc7
      have htc : tl ≠ cp := fun e => by rw [e, hc8] at ht8; cases ht8
      have hlc : l ≠ cp := fun e => by rw [e, hc7] at hl7; cases hl7
      have h2c : l2 ≠ cp := fun e => by rw [e, hc8] at hl28; cases hl28
      refine for_it (walk_list (K := K) (a := l2) (xs := sh.map V.str)) (PInv2 b l o tl cp m mo sh es ts ties H n l2) ⟨B8.mono (by omega), e7.trans e8, e8 _ _ hbl.symm hl7, ht8, e7s e8, hl28, [], v8, v9, v10, v11, none, hc8, Nat.le_refl _, fun _ h => absurd h List.not_mem_nil, List.nodup_nil, rfl⟩
        (fun i σ H' _ p => .inl (.inl p.2.2.2.2.2.1)) (fun i x σ H9 H9' hi pv yv => ?_) (fun σ H9 pv => ?_)
      · obtain ⟨rfl, hx⟩ := yv
        rw [List.length_map] at hi
        rw [List.getElem?_map, List.getElem?_eq_getElem hi] at hx
        cases hx
        obtain ⟨B9, e9, hl9, ht9, hT9, hl29, cs, w8, w9, w10, w11, w12, hc9, hcl, hck, hcn, rfl⟩ := pv
        have hin : sh[i] ∈ sh.take (i + 1) := by
          rw [List.take_add_one, List.getElem?_eq_getElem hi]
          exact List.mem_append_right _ (List.mem_singleton.mpr rfl)
        have hsub : ∀ e, e ∈ sh.take i → e ∈ sh.take (i + 1) := fun e he => by
          rw [List.take_add_one]
          exact List.mem_append_left _ he
        have hout : sh[i] ∉ sh.take i := fun hm => by
          obtain ⟨j, hj, e⟩ := List.getElem_of_mem hm
          rw [List.getElem_take] at e
          rw [List.length_take] at hj
          have := (List.getElem_inj (h₀ := by omega) (h₁ := hi) hshn).mp e
          omega
        have hsz : (capsV cs).length < sizeLine := by
          unfold capsV
          rw [List.length_map]
          exact Nat.lt_of_lt_of_le (by omega) (sz 1000)
        refine ⟨_, rfl, b, 4, _, rfl, by decide, by decide, by omega, B9, fun d3 J1 f1 f2 C1 g1 => ⟨rfl, _, rfl, ite2 (fun _ => ?_) (fun _ => ?_)⟩⟩
        · refine ⟨_, rfl, _, _, rfl, rfl, ⟨by decide, by decide, by decide⟩, b, _, _, rfl, by decide, by decide, by omega, C1, fun dg J2 f3 f4 C2 g2 => ⟨_, _, rfl, rfl, ⟨by decide, by decide, by decide⟩, _, _, rfl, rfl, ?_, sz 6, fun L hL => ⟨_, rfl, b, 6, _, rfl, by decide, by decide, by omega, C2.new hL, fun d6 J3 k1 k2 C3 g3 => ?_⟩⟩⟩
          · have f4 : dg < 1000000000000 := f4
            exact .inl ⟨by omega, by omega⟩
          have f4 : dg < 1000000000000 := f4
          have hbL := C2.ne hL
          have hL2 := g3 _ _ hbL.symm upd_same
          obtain ⟨v, hv, hvm⟩ := pickN (xs := [V.int 0, .int 1, .int 2, .int 4, .int 7, .int (dg * 10 ^ 15)]) k1 (by show d6 < 6; exact k2)
          obtain ⟨v, rfl, v0, v1⟩ : ∃ i : Int, v = .int i ∧ 0 ≤ i ∧ i ≤ bigL := by
            have hbig : bigL = 10000000000000000000000000000 := by decide
            have hmul : dg * 10 ^ 15 = dg * 1000000000000000 := rfl
            simp only [List.mem_cons, List.not_mem_nil, or_false] at hvm
            rcases hvm with rfl | rfl | rfl | rfl | rfl | rfl
            all_goals refine ⟨_, rfl, ?_, ?_⟩ <;> omega
          have g13 : Pu.Ext b H9' J3 := g1.trans (g2.trans ((Pu.Ext.new hL).trans g3))
          have hc13 := g13 _ _ hbc.symm hc9
          refine ⟨L, _, _, _, rfl, rfl, .inl (.inl hL2), hv, _, rfl, _, rfl, cp, _, rfl, .inl ⟨capsV cs, .inr sh[i], hc13, rfl, hsz, rfl⟩, ?_⟩
          have hp : putK (capsV cs) (.inr sh[i]) (.int v) = capsV (cs ++ [(sh[i], v)]) := by
            rw [putK_fresh fun p hp => ?_]
            · unfold capsV
              rw [List.map_append]
              rfl
            · unfold capsV at hp
              obtain ⟨c, hc, rfl⟩ := List.mem_map.mp hp
              intro e
              have e2 : c.1 = sh[i] := Sum.inr.inj e
              exact hout (e2 ▸ (hck c hc).1)
          rw [hp]
          have key : ∀ a u, a ≠ cp → J3 a = some u → (upd J3 cp (.dK (capsV (cs ++ [(sh[i], v)])))) a = some u := fun a u ha h => by
            rw [upd_ne ha]
            exact h
          refine ⟨(C3.upd hbc).mono (by omega), (e9.trans g13).mut c0, key _ _ hlc (g13 _ _ hbl.symm hl9), key _ _ htc (g13 _ _ hbt.symm ht9), ?_, key _ _ h2c (g13 _ _ hb2.symm hl29), cs ++ [(sh[i], v)], _, _, _, _, _, upd_same, by rw [List.length_append]; show _ + 1 ≤ _; omega, fun c hc => ?_, ?_, rfl⟩
          · refine hT9.keep fun z hz r hr => key _ _ (fun e => ?_) (g13 _ _ (hTb z hz) hr)
            rw [e, hc9] at hr
            cases hr
          · rcases List.mem_append.mp hc with h | h
            · exact ⟨hsub _ (hck c h).1, (hck c h).2⟩
            · rw [List.mem_singleton.mp h]
              exact ⟨hin, v0, v1⟩
          · rw [List.map_append, List.nodup_append]
            refine ⟨hcn, by simp, fun a ha c hc e => ?_⟩
            obtain ⟨q0, hq0, rfl⟩ := List.mem_map.mp ha
            have hc : c ∈ [sh[i]] := hc
            rw [List.mem_singleton] at hc
            subst hc
            exact hout (e ▸ (hck q0 hq0).1)
        · exact ⟨C1.mono (by omega), e9.trans g1, g1 _ _ hbl.symm hl9, g1 _ _ hbt.symm ht9, hT9.keep fun z hz r hr => g1 _ _ (hTb z hz) hr, g1 _ _ hb2.symm hl29, cs, _, _, _, _, _, g1 _ _ hbc.symm hc9, by omega, fun c hc => ⟨hsub _ (hck c hc).1, (hck c hc).2⟩, hcn, rfl⟩
      · obtain ⟨B9, e9, hl9, ht9, hT9, hl29, cs, w8, w9, w10, w11, w12, hc9, hcl, hck, hcn, rfl⟩ := pv
        rw [List.length_map, List.take_length] at hck
        refine ⟨_, rfl, _, rfl, _, rfl, sz 3, fun q0 hq0 => ?_⟩
        have sm : Same H9 (upd H9 q0 (.lst [.ref l, .ref tl, .ref cp])) := same_upd hq0
        exact q q0 ⟨es, ties, cs⟩ _ ((B9.new hq0).mono (by rw [List.length_map]; omega)) (e9.trans (Pu.Ext.new hq0)) (e9.fresh B9 hq0) ⟨l, tl, cp, ts, upd_same, sm _ _ hl9, sm _ _ ht9, hT9.same sm, sm _ _ hc9, (B9.ne hq0).symm, hbl.symm, hbt.symm, hbc.symm, hTb⟩
          ⟨⟨ho, by show ties.length ≤ 60; omega, fun t ht => ⟨(hTk t ht).1, (hTk t ht).2.1, (hTk t ht).2.2.1⟩, fun c hc => ⟨hsh.mem_iff.mp (hck c hc).1, (hck c hc).2.1⟩, hcn, idxS os, fun t ht => (hTk t ht).2.2.2.2⟩, hln, by show ties.length ≤ mo; omega, fun t ht => (hTk t ht).2.2.2.1, fun c hc => (hck c hc).2.2⟩

end
end Pk

set_option Elab.async false
set_option linter.all false
set_option maxRecDepth 100000
set_option maxHeartbeats 4000000
/-! != of lists and of dicts, == and != of tuples, where what holds of the parts is known in one program alone -/
namespace PySem.SeqAt
open AutoSeq1 (wpAny_loadPart')
open MeetsSeq MeetsSeq2 MeetsSeq3 SeqRoads2
section
variable {P : Program} {w : World}
/-- the parts that both hold, one by one -/
def Parts (P : Program) (w : World) (A : Around) (s : Shared) (us vs : Array Value) (f : Nat → Bool) : Prop := ∀ j (_ : j < us.size) (_ : j < vs.size), EqP P w A s us[j] vs[j] (f j)
theorem neLoop (p q : Addr) (us vs : Array Value) (m m' : Nat) (od od' : Option Addr) (ss ss' : Array (Option Value)) (len : us.size = vs.size) (f : Nat → Bool) : ∀ (left i : Nat), us.size - i = left →
    MeetsIn P w (Builtin.«list.__eq__.loop» ⟨[.ref p, .ref q, rawInt i, rawInt 3], []⟩) (fun A R s =>
      s.heap.get? p = some ⟨.type "list", od, .seq us m, ss⟩ ∧ s.heap.get? q = some ⟨.type "list", od', .seq vs m', ss'⟩ ∧ Parts P w A.in1 s us vs f ∧ R (.ok (.ret (.bool (!((List.range us.size).drop i).all f)))) s) := by
  intro left
  induction left with
  | zero =>
    rintro i hi A R ⟨hp, g, d, tk, os⟩ ⟨e1, e2, _, fin⟩
    have o1 : us[((i : Nat) : Int).toNat]? = none := by simp; omega
    have o2 : vs[((i : Nat) : Int).toNat]? = none := by simp; omega
    rw [show (List.range us.size).drop i = [] by simp; omega] at fin
    wp_walk using wpAny_loadPart' e1, wpAny_loadPart' e2
    rw [o1, o2]
    wp_walk using wpAny_loadPart' e1, wpAny_loadPart' e2
    show R (.ok (.ret (.bool (us.size != vs.size)))) _
    rw [len]
    simpa using fin
  | succ left ih =>
    rintro i hi A R ⟨hp, g, d, tk, os⟩ ⟨e1, e2, ps, fin⟩
    have l1 : i < us.size := by omega
    have l2 : i < vs.size := by omega
    have o1 : us[((i : Nat) : Int).toNat]? = some us[i] := by simp [l1]
    have o2 : vs[((i : Nat) : Int).toNat]? = some vs[i] := by simp [l2]
    have up : ((i : Int) + 1) = ((i + 1 : Nat) : Int) := by omega
    rw [show (List.range us.size).drop i = i :: (List.range us.size).drop (i + 1) by simp [List.drop_eq_getElem_cons, l1], List.all_cons] at fin
    wp_walk using wpAny_loadPart' e1, wpAny_loadPart' e2
    rw [o1, o2]
    refine wpAny_bind (ps i l1 l2 _ _ ?_)
    cases fi : f i with
    | true =>
      rw [fi] at fin
      wp_walk
      rw [up]
      refine ⟨plainId_quiet plain_eq_loop _, codeAny_builtin entry_eq_loop ?_⟩
      rw [Around.under_plainId plain_eq_loop _]
      exact ih (i + 1) (by omega) A R _ ⟨e1, e2, ps, by simpa using fin⟩
    | false =>
      rw [fi] at fin
      wp_walk using wpAny_loadPart' e1, wpAny_loadPart' e2
      rw [o1, o2]
      wp_walk
      simpa using fin
theorem neLists {A : Around} {s : Shared} {p q : Addr} {us vs : Array Value} {f : Nat → Bool} (h1 : s.heap.IsList p us) (h2 : s.heap.IsList q vs) (len : us.size = vs.size) (hu : A.units < cLine) (ps : Parts P w A.in1 s us vs f) (E Q : Value → Shared → Prop)
    (fin : Q (.bool (!(List.range us.size).all f)) s) : wpAny (model P w) A (richCompare .NotEq (.ref p) (.ref q)) Q E s := by
  obtain ⟨⟨c1, od, da, ss⟩, g1, k1, m, b1⟩ := id h1
  obtain ⟨⟨c2, od', db, ss'⟩, g2, k2, m', b2⟩ := id h2
  dsimp only at k1 b1 k2 b2
  subst k1 b1 k2 b2
  have t1 : s.TypeIs (.ref p) "list" := ⟨_, g1, rfl⟩
  have t2 : s.TypeIs (.ref q) "list" := ⟨_, g2, rfl⟩
  have body : MeetsIn P w (Builtin.«list.__ne__» ⟨[.ref p, .ref q], []⟩) (fun A R s => s.heap.get? p = some ⟨.type "list", od, .seq us m, ss⟩ ∧ s.heap.get? q = some ⟨.type "list", od', .seq vs m', ss'⟩ ∧ Parts P w A.in1 s us vs f ∧ R (.ok (.ret (.bool (!(List.range us.size).all f)))) s) := by
    rintro A R ⟨hp, g, d, tk, os⟩ ⟨e1, e2, ps, fin⟩
    have sub := AutoSeq1.sub_list_list
    have ne : ¬ (us.size != vs.size) = true := by simp [len]
    wp_walk using wpAny_loadPart' e1, wpAny_loadPart' e2
    refine ⟨plainId_quiet plain_eq_loop _, codeAny_builtin entry_eq_loop ?_⟩
    rw [Around.under_plainId plain_eq_loop _]
    exact neLoop p q us vs m m' od od' ss ss' len f _ 0 rfl A R _ ⟨e1, e2, ps, by simpa using fin⟩
  exact wpAny_richCompare_same_room (op := .NotEq) t1 t2 F.slot_list_ne (call_meetsIn F.slot_list_ne t1 F.entry_list_ne (F.args_list_ne_2 _ _) body ⟨g1, g2, ps, (fun x => nomatch x), fin⟩) hu
/-- a walk over the two tuples -/
theorem zipWalk {A : Around} {s : Shared} {us vs : Array Value} {f : Nat → Bool} (len : us.size = vs.size) : (us.toList.zip vs.toList).length = us.size := by simp [len]
theorem eqTuples {A : Around} {s : Shared} {p q : Addr} {us vs : Array Value} {f : Nat → Bool} (h1 : s.heap.IsTuple p us) (h2 : s.heap.IsTuple q vs) (len : us.size = vs.size) (hu : A.units < cLine) (ps : Parts P w A.in1 s us vs f) (E Q : Value → Shared → Prop)
    (fin : Q (.bool ((List.range us.size).all f)) s) : wpAny (model P w) A (richCompare .Eq (.ref p) (.ref q)) Q E s := by
  obtain ⟨⟨c1, od, da, ss⟩, g1, k1, m, b1⟩ := id h1
  obtain ⟨⟨c2, od', db, ss'⟩, g2, k2, m', b2⟩ := id h2
  dsimp only at k1 b1 k2 b2
  subst k1 b1 k2 b2
  have t1 : s.TypeIs (.ref p) "tuple" := ⟨_, g1, rfl⟩
  have t2 : s.TypeIs (.ref q) "tuple" := ⟨_, g2, rfl⟩
  have body : MeetsIn P w (Builtin.«tuple.__eq__» ⟨[.ref p, .ref q], []⟩) (fun A R s => s.heap.get? p = some ⟨.type "tuple", od, .seq us m, ss⟩ ∧ s.heap.get? q = some ⟨.type "tuple", od', .seq vs m', ss'⟩ ∧ Parts P w A.in1 s us vs f ∧ R (.ok (.ret (.bool ((List.range us.size).all f)))) s) := by
    rintro A R ⟨hp, g, d, tk, os⟩ ⟨e1, e2, ps, fin⟩
    have sub := AutoSeq1.sub_tuple_tuple
    have lz : (us.toList.zip vs.toList).length = us.size := by simp [len]
    wp_walk using wpAny_loadPart' e1, wpAny_loadPart' e2, wpAny_forIn_list _ (fun rest b s' => b.1 = none ∧ s' = ⟨hp, g, d, tk, os⟩ ∧ ∃ i, rest = (us.toList.zip vs.toList).drop i ∧ R (.ok (.ret (.bool (((List.range us.size).drop i).all f)))) ⟨hp, g, d, tk, os⟩) _
    case turn =>
      rintro ⟨y, x⟩ rest b s' ⟨nb, rfl, i, hz, hR⟩
      have li : i < (us.toList.zip vs.toList).length := by
        rcases Nat.lt_or_ge i (us.toList.zip vs.toList).length with z | z
        · exact z
        · rw [List.drop_of_length_le z] at hz
          cases hz
      have l1 : i < us.size := lz ▸ li
      have l2 : i < vs.size := len ▸ l1
      rw [List.drop_eq_getElem_cons li] at hz
      obtain ⟨hyx, hrest⟩ := List.cons.inj hz
      have ey : y = us[i] := by simpa using congrArg Prod.fst hyx
      have ex : x = vs[i] := by simpa using congrArg Prod.snd hyx
      subst ey ex
      rw [show (List.range us.size).drop i = i :: (List.range us.size).drop (i + 1) by simp [List.drop_eq_getElem_cons, l1], List.all_cons] at hR
      refine wpAny_bind (ps i l1 l2 _ _ ?_)
      cases fi : f i with
      | true =>
        rw [fi] at hR
        wp_walk
        exact ⟨rfl, rfl, i + 1, hrest, by simpa using hR⟩
      | false =>
        rw [fi] at hR
        wp_walk
        simpa using hR
    case fin =>
      rintro ⟨b1, b2⟩ s' ⟨nb, rfl, i, hz, hR⟩
      dsimp only at nb
      subst nb
      have li : us.size ≤ i := by
        rcases Nat.lt_or_ge i (us.toList.zip vs.toList).length with z | z
        · rw [List.drop_eq_getElem_cons z] at hz
          cases hz
        · exact lz ▸ z
      rw [List.drop_of_length_le (by simpa using li)] at hR
      wp_walk
      simpa [Builtin.Tuple.tupleCompareSizes, len] using hR
    case h => exact ⟨rfl, rfl, 0, rfl, by simpa using fin⟩
  exact wpAny_richCompare_same_room (op := .Eq) t1 t2 F.slot_tuple_eq (call_meetsIn F.slot_tuple_eq t1 F.entry_tuple_eq (F.args_tuple_eq_2 _ _) body ⟨g1, g2, ps, (fun x => nomatch x), fin⟩) hu
theorem neTuples {A : Around} {s : Shared} {p q : Addr} {us vs : Array Value} {f : Nat → Bool} (h1 : s.heap.IsTuple p us) (h2 : s.heap.IsTuple q vs) (len : us.size = vs.size) (hu : A.units < cLine) (ps : Parts P w A.in1 s us vs f) (E Q : Value → Shared → Prop)
    (fin : Q (.bool (!(List.range us.size).all f)) s) : wpAny (model P w) A (richCompare .NotEq (.ref p) (.ref q)) Q E s := by
  obtain ⟨⟨c1, od, da, ss⟩, g1, k1, m, b1⟩ := id h1
  obtain ⟨⟨c2, od', db, ss'⟩, g2, k2, m', b2⟩ := id h2
  dsimp only at k1 b1 k2 b2
  subst k1 b1 k2 b2
  have t1 : s.TypeIs (.ref p) "tuple" := ⟨_, g1, rfl⟩
  have t2 : s.TypeIs (.ref q) "tuple" := ⟨_, g2, rfl⟩
  have body : MeetsIn P w (Builtin.«tuple.__ne__» ⟨[.ref p, .ref q], []⟩) (fun A R s => s.heap.get? p = some ⟨.type "tuple", od, .seq us m, ss⟩ ∧ s.heap.get? q = some ⟨.type "tuple", od', .seq vs m', ss'⟩ ∧ Parts P w A.in1 s us vs f ∧ R (.ok (.ret (.bool (!(List.range us.size).all f)))) s) := by
    rintro A R ⟨hp, g, d, tk, os⟩ ⟨e1, e2, ps, fin⟩
    have sub := AutoSeq1.sub_tuple_tuple
    have lz : (us.toList.zip vs.toList).length = us.size := by simp [len]
    wp_walk using wpAny_loadPart' e1, wpAny_loadPart' e2, wpAny_forIn_list _ (fun rest b s' => b.1 = none ∧ s' = ⟨hp, g, d, tk, os⟩ ∧ ∃ i, rest = (us.toList.zip vs.toList).drop i ∧ R (.ok (.ret (.bool (!((List.range us.size).drop i).all f)))) ⟨hp, g, d, tk, os⟩) _
    case turn =>
      rintro ⟨y, x⟩ rest b s' ⟨nb, rfl, i, hz, hR⟩
      have li : i < (us.toList.zip vs.toList).length := by
        rcases Nat.lt_or_ge i (us.toList.zip vs.toList).length with z | z
        · exact z
        · rw [List.drop_of_length_le z] at hz
          cases hz
      have l1 : i < us.size := lz ▸ li
      have l2 : i < vs.size := len ▸ l1
      rw [List.drop_eq_getElem_cons li] at hz
      obtain ⟨hyx, hrest⟩ := List.cons.inj hz
      have ey : y = us[i] := by simpa using congrArg Prod.fst hyx
      have ex : x = vs[i] := by simpa using congrArg Prod.snd hyx
      subst ey ex
      rw [show (List.range us.size).drop i = i :: (List.range us.size).drop (i + 1) by simp [List.drop_eq_getElem_cons, l1], List.all_cons] at hR
      refine wpAny_bind (ps i l1 l2 _ _ ?_)
      cases fi : f i with
      | true =>
        rw [fi] at hR
        wp_walk
        exact ⟨rfl, rfl, i + 1, hrest, by simpa using hR⟩
      | false =>
        rw [fi] at hR
        wp_walk
        simpa using hR
    case fin =>
      rintro ⟨b1, b2⟩ s' ⟨nb, rfl, i, hz, hR⟩
      dsimp only at nb
      subst nb
      have li : us.size ≤ i := by
        rcases Nat.lt_or_ge i (us.toList.zip vs.toList).length with z | z
        · rw [List.drop_eq_getElem_cons z] at hz
          cases hz
        · exact lz ▸ z
      rw [List.drop_of_length_le (by simpa using li)] at hR
      wp_walk
      simpa [Builtin.Tuple.tupleCompareSizes, len, bne] using hR
    case h => exact ⟨rfl, rfl, 0, rfl, by simpa using fin⟩
  exact wpAny_richCompare_same_room (op := .NotEq) t1 t2 F.slot_tuple_ne (call_meetsIn F.slot_tuple_ne t1 F.entry_tuple_ne (F.args_tuple_ne_2 _ _) body ⟨g1, g2, ps, (fun x => nomatch x), fin⟩) hu
end
end PySem.SeqAt
namespace PySem.W
open SeqAt (EqP)
theorem neDicts {P : Program} {w : World} {κ : Type} [DecidableEq κ] {knd : PySem.KeyKind P w κ} {A : Around} {s : Shared} {p q : Addr} {us vs : List (κ × Value)} {r : Bool} (n1 : (p == sysModules) = false) (n2 : (q == sysModules) = false) (d1 : s.heap.DictOf knd p us) (d2 : s.heap.DictOf knd q vs) (hu : A.units < cLine)
    (hits : us.length = vs.length → KeqHitsP P w A.in1 s vs us r) (E Q : Value → Shared → Prop) (fin : Q (.bool (!(us.length == vs.length && r))) s) : wpAny (model P w) A (richCompare .NotEq (.ref p) (.ref q)) Q E s := by
  refine wpAny_richCompare_same_room (op := .NotEq) d1.typeIs d2.typeIs PySem.F.slot_dict_ne (wpAny_call_entry PySem.F.slot_dict_ne d1.typeIs PySem.F.entry_dict_ne ?_ (PySem.F.args_dict_ne_2 _ _)) hu
  show wpAny _ _ (Builtin.Dict.dictSlotArgs "__ne__" ⟨[.ref p, .ref q], []⟩ >>= _) _ _ s
  unfold Builtin.Dict.dictSlotArgs
  refine wpAny_bind (wpAny_bind (wpAny_notOrdered_dict d1.typeIs ?_))
  refine wpAny_pure ?_
  refine wpAny_bind (wpAny_isInstance (T := "dict") d2.typeIs PySem.F.sub_dict_dict ?_)
  simp only [Bool.not_true, Bool.false_eq_true, if_false]
  refine wpAny_bind (wpAny_pure (wpAny_bind (wpAny_pure ?_)))
  refine wpAny_bind (samePairsP n1 n2 d1 d2 hits ?_)
  exact wpAny_pure ⟨_, rfl, (fun x => nomatch x), by simpa using fin⟩
end PySem.W

set_option Elab.async false
set_option linter.all false
set_option maxRecDepth 100000
set_option maxHeartbeats 4000000
/-! == and != of what is nested: lists, tuples and dicts of flat values and of the same objects, with either answer -/
namespace Pu
open PySem PySem.Spec PyProof.Rows L2
/-- the answers, part by part -/
inductive Ansd (F : V → V → Bool → Prop) : List V → List V → List Bool → Prop
  | nil : Ansd F [] [] []
  | cons {x y : V} {r : Bool} {xs ys : List V} {rs : List Bool} (h : F x y r) (t : Ansd F xs ys rs) : Ansd F (x :: xs) (y :: ys) (r :: rs)
theorem Ansd.len {F : V → V → Bool → Prop} {xs ys : List V} {rs : List Bool} (h : Ansd F xs ys rs) : xs.length = ys.length ∧ rs.length = xs.length := by
  induction h with
  | nil => exact ⟨rfl, rfl⟩
  | cons _ _ ih => exact ⟨congrArg (· + 1) ih.1, congrArg (· + 1) ih.2⟩
theorem Ansd.mono {F G : V → V → Bool → Prop} {xs ys : List V} {rs : List Bool} (h : Ansd F xs ys rs) (k : ∀ x y r, F x y r → G x y r) : Ansd G xs ys rs := by
  induction h with
  | nil => exact .nil
  | cons h _ ih => exact .cons (k _ _ _ h) ih
/-- the answer for the dicts ks and ls -/
inductive Keyd (F : V → V → Bool → Prop) (ls : List (Key × V)) : List (Key × V) → Bool → Prop
  | nil : Keyd F ls [] true
  | miss {k : Key} {x : V} {ks : List (Key × V)} (h : valV ls k = none) : Keyd F ls ((k, x) :: ks) false
  | hit {k : Key} {x y : V} {r q : Bool} {ks : List (Key × V)} (h : valV ls k = some y) (e : F x y r) (t : Keyd F ls ks q) : Keyd F ls ((k, x) :: ks) (r && q)
/-- two objects of one kind -/
def RcB (K : PySem.W.Frag) (H : Hp) (F : V → V → Bool → Prop) (x y : V) (r : Bool) : Prop := ∃ a b, x = .ref a ∧ y = .ref b ∧ (a = b → r = true) ∧
  ((∃ xs ys rs, SqL K H a xs ∧ SqL K H b ys ∧ Ansd F xs ys rs ∧ r = rs.all id) ∨ (∃ xs ys, SqL K H a xs ∧ SqL K H b ys ∧ xs.length ≠ ys.length ∧ r = false) ∨
   (∃ xs ys rs, SqT K H a xs ∧ SqT K H b ys ∧ Ansd F xs ys rs ∧ r = rs.all id) ∨
   (∃ ks ls q, H a = some (.dK ks) ∧ H b = some (.dK ls) ∧ ks.length = ls.length ∧ Keyd F ls ks q ∧ r = q) ∨ ∃ ks ls, H a = some (.dK ks) ∧ H b = some (.dK ls) ∧ ks.length ≠ ls.length ∧ r = false)
/-- two values, nested n deep at most -/
def EqB (K : PySem.W.Frag) (H : Hp) : Nat → V → V → Bool → Prop
  | 0 => fun _ _ _ => False
  | n + 1 => fun x y r => (flatV x = true ∧ flatV y = true ∧ r = eqV x y) ∨ (∃ a, x = .ref a ∧ y = .ref a ∧ r = true) ∨ RcB K H (EqB K H n) x y r
theorem ansd_run {P : Program} {w : World} {A : Around} {s : Shared} {F : V → V → Bool → Prop} (ih : ∀ x y r v u, F x y r → RelV x v → RelV y u → SeqAt.EqP P w A s v u r) {xs ys : List V} {rs : List Bool} (hp : Ansd F xs ys rs) :
    ∀ {us ws : List Value}, Vals xs us → Vals ys ws → ∀ j (h1 : j < us.length) (h2 : j < ws.length), SeqAt.EqP P w A s us[j] ws[j] (rs.getD j true) := by
  induction hp with
  | nil =>
    intro us ws r1 r2 j h1 h2
    cases r1
    exact absurd h1 (Nat.not_lt_zero j)
  | cons h _ k =>
    intro us ws r1 r2 j h1 h2
    cases r1 with
    | cons a1 b1 =>
      cases r2 with
      | cons a2 b2 =>
        cases j with
        | zero => exact ih _ _ _ _ _ h a1 a2
        | succ j => exact k b1 b2 j (Nat.lt_of_succ_lt_succ h1) (Nat.lt_of_succ_lt_succ h2)
theorem all_getD : ∀ rs : List Bool, (List.range rs.length).all (fun j => rs.getD j true) = rs.all id
  | [] => rfl
  | r :: rs => by
    rw [List.length_cons, List.range_succ_eq_map, List.all_cons, List.all_map, List.all_cons, ← all_getD rs]
    rfl
theorem keyd_run {P : Program} {w : World} {A : Around} {s : Shared} {F : V → V → Bool → Prop} (ih : ∀ x y r v u, F x y r → RelV x v → RelV y u → SeqAt.EqP P w A s v u r) {ls : List (Key × V)} {vb : List (Key × Value)} (rb : KV ls vb) {ks : List (Key × V)} {q : Bool} (h : Keyd F ls ks q) :
    ∀ {va : List (Key × Value)}, KV ks va → PySem.W.KeqHitsP P w A s vb va q := by
  induction h with
  | nil =>
    intro va ra
    cases ra
    exact .nil
  | @miss k x ks h =>
    intro va ra
    cases ra with
    | @cons _ p _ ps h1 t =>
      obtain ⟨e1, e2⟩ := h1
      obtain ⟨key, v⟩ := p
      have e1 : k = key := e1
      subst e1
      have rr : RelO none (valueAt vb k) := by rw [← h]; exact rb.val k
      refine .miss ?_
      cases hv : valueAt vb k with
      | none => rfl
      | some y => rw [hv] at rr; exact rr.elim
  | @hit k x y r q ks h e t ih2 =>
    intro va ra
    cases ra with
    | @cons _ p _ ps h1 t1 =>
      obtain ⟨e1, e2⟩ := h1
      obtain ⟨key, v⟩ := p
      have e1 : k = key := e1
      subst e1
      have rr : RelO (some y) (valueAt vb k) := by rw [← h]; exact rb.val k
      obtain ⟨z, hz, rz⟩ := rr.some_of
      exact .hit hz (ih _ _ _ _ _ e e2 rz) (ih2 t1)
section
variable {X : Cx} {pins : List (Addr × Obj)} {σ : L2.St} {H : Hp} {s : Shared}
theorem rcB_run (I : Inv X pins σ H s) {A : Around} {F : V → V → Bool → Prop} (hu : A.units < cLine) (ih : ∀ x y r v u, F x y r → RelV x v → RelV y u → SeqAt.EqP X.prog X.w A.in1 s v u r) {x y : V} {r : Bool} {v u : Value} (h : RcB X.K H F x y r) (rx : RelV x v) (ry : RelV y u) (E Q : Value → Shared → Prop) :
    (Q (.bool r) s → wpAny (model X.prog X.w) A (richCompare .Eq v u) Q E s) ∧ (Q (.bool (!r)) s → wpAny (model X.prog X.w) A (richCompare .NotEq v u) Q E s) := by
  obtain ⟨a, b, rfl, rfl, _, h⟩ := h
  cases (show v = Value.ref a from rx)
  cases (show u = Value.ref b from ry)
  rcases h with ⟨xs, ys, rs, ha, hb, hp, rfl⟩ | ⟨xs, ys, ha, hb, hne, rfl⟩ | ⟨xs, ys, rs, ha, hb, hp, rfl⟩ | ⟨ks, ls, q, ha, hb, hl, hk, rfl⟩ | ⟨ks, ls, ha, hb, hl, rfl⟩
  · obtain ⟨us, r1, p1, _⟩ := I.list ha
    obtain ⟨ws, r2, p2, _⟩ := I.list hb
    obtain ⟨l1, l2⟩ := hp.len
    have hsz : us.toArray.size = ws.toArray.size := by
      rw [List.size_toArray, List.size_toArray, ← r1.length, ← r2.length]
      exact l1
    have all : (List.range us.toArray.size).all (fun j => rs.getD j true) = rs.all id := by
      rw [List.size_toArray, ← r1.length, ← l2]
      exact all_getD rs
    have parts : ∀ j (h1 : j < us.toArray.size) (h2 : j < ws.toArray.size), SeqAt.EqP X.prog X.w A.in1 s us.toArray[j] ws.toArray[j] (rs.getD j true) := fun j h1 h2 => by
      have k := ansd_run ih hp r1 r2 j (by simpa using h1) (by simpa using h2)
      simpa using k
    exact ⟨fun q => SeqAt.rcP_lists (e := fun j => rs.getD j true) p1.isList p2.isList hsz hu parts E Q (by rw [all]; exact q), fun q => SeqAt.neLists (f := fun j => rs.getD j true) p1.isList p2.isList hsz hu parts E Q (by rw [all]; exact q)⟩
  · obtain ⟨us, r1, p1, _⟩ := I.list ha
    obtain ⟨ws, r2, p2, _⟩ := I.list hb
    have hsz : (us.toArray.size != ws.toArray.size) = true := by
      rw [List.size_toArray, List.size_toArray, ← r1.length, ← r2.length]
      simpa using hne
    exact ⟨fun q => SeqAt.RcAt.lists_lengths p1.isList p2.isList hsz hu _ _ _ _ q, fun q => SeqAt.RcNeAt.lists_lengths p1.isList p2.isList hsz hu _ _ _ _ q⟩
  · obtain ⟨us, r1, p1, _⟩ := I.tuple ha
    obtain ⟨ws, r2, p2, _⟩ := I.tuple hb
    obtain ⟨l1, l2⟩ := hp.len
    have hsz : us.toArray.size = ws.toArray.size := by
      rw [List.size_toArray, List.size_toArray, ← r1.length, ← r2.length]
      exact l1
    have all : (List.range us.toArray.size).all (fun j => rs.getD j true) = rs.all id := by
      rw [List.size_toArray, ← r1.length, ← l2]
      exact all_getD rs
    have parts : SeqAt.Parts X.prog X.w A.in1 s us.toArray ws.toArray (fun j => rs.getD j true) := fun j h1 h2 => by
      have k := ansd_run ih hp r1 r2 j (by simpa using h1) (by simpa using h2)
      simpa using k
    exact ⟨fun q => SeqAt.eqTuples p1 p2 hsz hu parts E Q (by rw [all]; exact q), fun q => SeqAt.neTuples p1 p2 hsz hu parts E Q (by rw [all]; exact q)⟩
  · obtain ⟨_, ya, va, ra, da⟩ := (show ObjOk X.prog X.w H s.heap a (.dK ks) from I.hok a _ ha)
    obtain ⟨_, yb, vb, rb, db⟩ := (show ObjOk X.prog X.w H s.heap b (.dK ls) from I.hok b _ hb)
    have e : va.length = vb.length := by rw [← ra.length, ← rb.length]; exact hl
    exact ⟨fun z => PySem.W.rcP_dicts (knd := mixKind X.prog X.w) ya yb da db hu (fun _ => keyd_run ih rb hk ra) E Q (by rw [e, beq_self_eq_true, Bool.true_and]; exact z),
      fun z => PySem.W.neDicts (knd := mixKind X.prog X.w) ya yb da db hu (fun _ => keyd_run ih rb hk ra) E Q (by rw [e, beq_self_eq_true, Bool.true_and]; exact z)⟩
  · obtain ⟨_, ya, va, ra, da⟩ := (show ObjOk X.prog X.w H s.heap a (.dK ks) from I.hok a _ ha)
    obtain ⟨_, yb, vb, rb, db⟩ := (show ObjOk X.prog X.w H s.heap b (.dK ls) from I.hok b _ hb)
    have e : va.length ≠ vb.length := by rw [← ra.length, ← rb.length]; exact hl
    have e2 : (va.length == vb.length) = false := by simpa using e
    exact ⟨fun z => PySem.W.rcP_dicts (knd := mixKind X.prog X.w) (r := true) ya yb da db hu (fun z => absurd z e) E Q (by rw [e2, Bool.false_and]; exact z),
      fun z => PySem.W.neDicts (knd := mixKind X.prog X.w) (r := true) ya yb da db hu (fun z => absurd z e) E Q (by rw [e2, Bool.false_and]; exact z)⟩
theorem eqB_run (I : Inv X pins σ H s) : ∀ (n : Nat) (A : Around), A.units + n < cLine → ∀ (x y : V) (r : Bool) (v u : Value), EqB X.K H n x y r → RelV x v → RelV y u → SeqAt.EqP X.prog X.w A s v u r
  | 0, _, _, _, _, _, _, _, h, _, _ => (show False from h).elim
  | n + 1, A, hu, x, y, r, v, u, h, rx, ry => by
    rcases h with ⟨f1, f2, rfl⟩ | ⟨a, rfl, rfl, rfl⟩ | h
    · exact (eqAt_V rx ry f1 f2).eqP
    · cases (show v = Value.ref a from rx)
      cases (show u = Value.ref a from ry)
      exact (SeqAt.EqAt.same _).eqP
    · have step := fun E Q => (rcB_run I (A := A) (by omega) (eqB_run I n A.in1 (by show A.units + 1 + n < cLine; omega)) h rx ry E Q).1
      obtain ⟨a, b, rfl, rfl, h3, h2⟩ := h
      cases (show v = Value.ref a from rx)
      cases (show u = Value.ref b from ry)
      by_cases e : a = b
      · subst e
        rw [h3 rfl]
        exact (SeqAt.EqAt.same _).eqP
      · exact SeqAt.eqP_refs e step
/-- x == y, x != y -/
def rEqB (K : PySem.W.Frag) (neg : Bool) : R2 := fun x y H Q => ∃ n r, n ≤ 60 ∧ RcB K H (EqB K H n) x y r ∧ Q (.bl (if neg then !r else r)) H
theorem op_eqB {X : Cx} {k : Nat} (K : PySem.W.Frag) (hr : Room k X.A) (h : X.K = K := by rfl) : OpR X (compareOp .Eq) (rEqB K false) := by
  subst h
  intro pins s σ H x y v u Q I rx ry h
  obtain ⟨n, r, hn, h, q⟩ := h
  have hu := hr.units
  exact (rcB_run I (A := X.A) (by omega) (eqB_run I n X.A.in1 (by show X.A.units + 1 + n < cLine; omega)) h rx ry _ _).1 ⟨.bl r, H, I, rfl, q⟩
theorem op_neB {X : Cx} {k : Nat} (K : PySem.W.Frag) (hr : Room k X.A) (h : X.K = K := by rfl) : OpR X (compareOp .NotEq) (rEqB K true) := by
  subst h
  intro pins s σ H x y v u Q I rx ry h
  obtain ⟨n, r, hn, h, q⟩ := h
  have hu := hr.units
  exact (rcB_run I (A := X.A) (by omega) (eqB_run I n X.A.in1 (by show X.A.units + 1 + n < cLine; omega)) h rx ry _ _).2 ⟨.bl (!r), H, I, rfl, q⟩
end
/-! ### the pieces by hand -/
section
variable {K : PySem.W.Frag} {H : Hp}
theorem eqb_flat {n : Nat} {x y : V} (h1 : flatV x = true) (h2 : flatV y = true) : EqB K H (n + 1) x y (eqV x y) := .inl ⟨h1, h2, rfl⟩
theorem eqb_same {n : Nat} {a : Addr} : EqB K H (n + 1) (.ref a) (.ref a) true := .inr (.inl ⟨a, rfl, rfl, rfl⟩)
theorem eqb_obj {n : Nat} {x y : V} {r : Bool} (h : RcB K H (EqB K H n) x y r) : EqB K H (n + 1) x y r := .inr (.inr h)
theorem eqV_self {x : V} (h : flatV x = true) : eqV x x = true := by
  cases x with
  | non => rfl
  | bl b => exact beq_self_eq_true b
  | int i => exact beq_self_eq_true i
  | str z => exact beq_self_eq_true z
  | _ => cases h
/-- the same, flat or an object -/
def AnyV : V → Prop
  | .ref _ => True
  | v => flatV v = true
theorem eqb_refl {n : Nat} {x : V} (h : AnyV x) : EqB K H (n + 1) x x true := by
  have f : ∀ {v : V}, flatV v = true → EqB K H (n + 1) v v true := fun {v} hv => .inl ⟨hv, hv, (eqV_self hv).symm⟩
  cases x with
  | ref a => exact eqb_same
  | non => exact f rfl
  | bl b => exact f rfl
  | int i => exact f rfl
  | str z => exact f rfl
  | _ => exact f h
theorem ansd_all {F : V → V → Bool → Prop} {xs ys : List V} (h : xs.length = ys.length) (k : ∀ (i : Nat) x y, xs[i]? = some x → ys[i]? = some y → F x y true) : Ansd F xs ys (xs.map fun _ => true) := by
  induction xs generalizing ys with
  | nil =>
    cases ys with
    | nil => exact .nil
    | cons _ _ => cases h
  | cons x r ih =>
    cases ys with
    | nil => cases h
    | cons y t => exact .cons (k 0 x y rfl rfl) (ih (Nat.succ.inj h) fun i x y h1 h2 => k (i + 1) x y h1 h2)
theorem all_true {α : Type} (xs : List α) : (xs.map fun _ => true).all id = true := by
  rw [List.all_map, List.all_eq_true]
  intro _ _
  rfl
/-- two dicts with the same values -/
theorem keyd_all {F : V → V → Bool → Prop} {ls : List (Key × V)} : ∀ {ks : List (Key × V)}, (∀ p ∈ ks, ∃ y, valV ls p.1 = some y ∧ F p.2 y true) → Keyd F ls ks true
  | [], _ => .nil
  | (k, x) :: r, h => by
    obtain ⟨y, h1, h2⟩ := h (k, x) (List.mem_cons_self ..)
    exact .hit (r := true) (q := true) h1 h2 (keyd_all fun p hp => h p (List.mem_cons_of_mem _ hp))
/-- two dicts of flat values: with either answer -/
theorem keyd_flat {n : Nat} {ls : List (Key × V)} : ∀ {ks : List (Key × V)}, (∀ p ∈ ks, flatV p.2 = true ∧ ∃ y, valV ls p.1 = some y ∧ flatV y = true) → Keyd (EqB K H (n + 1)) ls ks (ks.all fun p => match valV ls p.1 with | some y => eqV p.2 y | none => false)
  | [], _ => .nil
  | (k, x) :: r, h => by
    obtain ⟨h0, y, h1, h2⟩ := h (k, x) (List.mem_cons_self ..)
    have t := keyd_flat (n := n) (ks := r) fun p hp => h p (List.mem_cons_of_mem _ hp)
    have e : (((k, x) :: r).all fun p => match valV ls p.1 with | some y => eqV p.2 y | none => false) = (eqV x y && r.all fun p => match valV ls p.1 with | some y => eqV p.2 y | none => false) := by
      rw [List.all_cons]
      dsimp only
      rw [h1]
    rw [e]
    exact .hit h1 (eqb_flat h0 h2) t
end
end Pu

set_option Elab.async false
set_option linter.all false
set_option maxRecDepth 100000
set_option maxHeartbeats 4000000
/-! an own class made with two values, its one keyword-only parameter left out or written -/
namespace Pu
open PySem PySem.Spec PyProof.Rows L2
structure CalMk (P : Program) (w : World) (K : PySem.W.Frag) (mg : Str → Option Value) (base : Heap) (CX : CXT) (k : Nat) (x : Str) (C : Addr) (kw : Str) (sp : Sp) : Prop where
  ex : ∃ (f : Addr) (fd : FuncData) (ps : List Str) (ds : List Value) (g : List Value → List Value → List Value), Mk K C f ∧ FnOk P w K mg base CX k f fd ps sp ∧ mg x = some (.ref C) ∧ Binds K fd ps ds ∧ Vals [.non] ds ∧ KBn K fd ps 3 [kw] g (fun vs zs => vs ++ zs)
section
variable {X : Cx} {CX : CXT} {k j : Nat} {x kw : Str} {C : Addr} {sp : Sp} {E : XK} {e : Expr} {es : List Expr} {kws : List Keyword} {t tk : TA} {p pos : Pos}
theorem pe_mk (c : CalMk X.prog X.w X.K X.mg X.base CX k x C kw sp) (hr : Room j X.A) (hk : k + 1 ≤ j) (hg : Gl X x) (hx : Passes CX X E) (ha : PA X (e :: es) t)
    (hdb : (x == ("__debug__" : Str)) = false := by decide) (he : starEach (e :: es) X.env = (false, eval e X.env) :: starEach es X.env := by rfl) (hpl : (backTo pos (starEach es X.env)).any (·.1) = false := by rfl) :
    PE X (.Call (.Name x p) (e :: es) [] pos) (tMake C sp [.non] E t) := by
  obtain ⟨f, fd, ps, ds, g, M, F, hm, b, d, kb⟩ := c.ex
  exact pe_make M F (hr.mono hk) hg hm b d hx ha hdb he hpl
theorem pe_mkK (c : CalMk X.prog X.w X.K X.mg X.base CX k x C kw sp) (hr : Room j X.A) (hk : k + 1 ≤ j) (hg : Gl X x) (hx : Passes CX X E) (ha : PA X (e :: es) t) (hw : PK X kws tk)
    (hall : (backToKw pos (keywordEach kws X.env)).all (·.1.isSome) = true := by rfl) (hks : (backToKw pos (keywordEach kws X.env)).filterMap (·.1) = [kw] := by rfl)
    (hdb : (x == ("__debug__" : Str)) = false := by decide) (he : starEach (e :: es) X.env = (false, eval e X.env) :: starEach es X.env := by rfl)
    (hpl : ((backTo pos (starEach (e :: es) X.env)).any (·.1) || (backToKw pos (keywordEach kws X.env)).any (·.1.isNone)) = false := by rfl) :
    PE X (.Call (.Name x p) (e :: es) kws pos) (tMakeK C 2 1 sp (fun vs zs => vs ++ zs) E t tk) := by
  obtain ⟨f, fd, ps, ds, g, M, F, hm, b, d, kb⟩ := c.ex
  exact pe_makeK M F (hr.mono hk) hg hm kb hx ha hw hall hks hdb he hpl
end
end Pu

set_option Elab.async false
set_option linter.all false
set_option maxRecDepth 100000
set_option maxHeartbeats 4000000
namespace Pk
open PySem PySem.Spec PyProof.Rows L2 Pu
abbrev s_law_plan : Stmt := topS 75
theorem sc_law_plan : FnScope ["_law_model_here"] ["_law_model_here"] (defScope s_law_plan) := ⟨rfl, rfl, rfl, by decide +kernel, rfl, by decide +kernel, by decide +kernel⟩

section
variable {P : Program} {w : World} {K : PySem.W.Frag} {mg : Str → Option Value} {base : Heap}
/-! ### the plan itself -/
def spPlanM (K : PySem.W.Frag) (C : Addr) : Sp := fun vs H Q _ => ∃ (b m : Addr) (d : PlanD), vs = [.ref m] ∧ ModAt b H m d ∧ PlanOk d ∧ ∀ p H', Same H H' → H p = none → PlanAt K C H' p d → Q (.ref p) H'
theorem ok_plan {C f : Addr} {fd : FuncData} (F : Fun K "_law_plan" "_law_plan" s_law_plan f fd) (T : Txt mg) (cPlan : CalMk P w K mg base CX0 5 "Plan" C "limits" (spInit K C)) :
    FnOk P w K mg base CX0 7 f fd ["_law_model_here"] (spPlanM K C) := by
  have nd := sc_law_plan.nd
  refine F.ok sc_law_plan (fun vs H Q E h => ?_) (fun cdv A outer s H vs Q E hr h => ?_)
  · obtain ⟨_, _, _, rfl, _⟩ := h
    rfl
  · obtain ⟨b, m, d, rfl, hm, ok, q⟩ := h
    refine ⟨_, (pss_one (ps_ret (pe_mkK cPlan hr (by decide) rfl pass0 (pa_cons (pe_ix (ixL K) (pv 0) pe_int (fun _ _ => rfl)) (pa_cons (pe_ix (ixL K) (pv 0) pe_int (fun _ _ => rfl)) pa_nil)) (pk_cons (pe_ix (ixL K) (pv 0) pe_int (fun _ _ => rfl)) pk_nil)))), ?_⟩
    obtain ⟨e, t, c, ts, h1, h2, h3, h4, h5, n1, n2, n3, n4, n5⟩ := hm
    refine ⟨_, rfl, m, _, ((0 : Nat) : Int), .ref e, rfl, rfl, .inl (.inl h1), atI_nat rfl, _, rfl, m, _, ((1 : Nat) : Int), .ref t, rfl, rfl, .inl (.inl h1), atI_nat rfl, _, rfl, m, _, ((2 : Nat) : Int), .ref c, rfl, rfl, .inl (.inl h1), atI_nat rfl, rfl, rfl, fun x dx hx hdx hne => ?_⟩
    have sx : Same H (upd (upd H dx (.own x)) x (.ins C dx [])) := Same.trans (same_upd hdx) (same_upd (by rw [upd_ne hne.symm]; exact hx))
    refine ⟨x, dx, e, t, .ref c, ts, d, rfl, upd_same, .inl (.inl (.inl (sx _ _ h2))), .inl (.inl (.inl (sx _ _ h3))), h4.same sx, .inr ⟨c, rfl, sx _ _ h5⟩, ok, fun H6 e6 hp6 => ⟨rfl, q x H6 (fun a o h => ?_) hx hp6⟩⟩
    exact e6 _ _ (ne_of_none h hx) (sx _ _ h)

end
end Pk

set_option Elab.async false
set_option linter.all false
set_option maxRecDepth 100000
set_option maxHeartbeats 4000000
namespace Pk
open PySem PySem.Spec PyProof.Rows L2 Pu
abbrev s_places_of : Stmt := topS 3
theorem sc_places_of : FnScope ["plan"] ["plan"] (defScope s_places_of) := ⟨rfl, rfl, rfl, by decide +kernel, rfl, by decide +kernel, by decide +kernel⟩
abbrev s_placed_rows : Stmt := topS 4
theorem sc_placed_rows : FnScope ["plan", "events", "limits", "rows", "index", "earlier", "later", "lag", "event"] ["plan"] (defScope s_placed_rows) := ⟨rfl, rfl, rfl, by decide +kernel, rfl, by decide +kernel, by decide +kernel⟩

section
variable {P : Program} {w : World} {K : PySem.W.Frag} {mg : Str → Option Value} {base : Heap}
/-! ### the places of a plan -/
def spPlaces (K : PySem.W.Frag) (C : Addr) : Sp := fun vs H Q _ => ∃ (p : Addr) (d : PlanD), vs = [.ref p] ∧ PlanAt K C H p d ∧ d.evs.length ≤ 8 ∧ ∀ q H', Same H H' → H q = none → H' q = some (.lst ((("" : Str) :: d.evs).map V.str)) → Q (.ref q) H'
theorem ok_places_of {C f : Addr} {fd : FuncData} (F : Fun K "places_of" "places_of" s_places_of f fd) (T : Txt mg) (PI : PlanI K C) (cEvents : CalM P w K mg base 1 C "events" (spPEvents K C)) : FnOk P w K mg base CX0 2 f fd ["plan"] (spPlaces K C) := by
  have nd := sc_places_of.nd
  refine F.ok sc_places_of (fun vs H Q E h => ?_) (fun cdv A outer s H vs Q E hr h => ?_)
  · obtain ⟨_, _, rfl, _⟩ := h
    rfl
  · obtain ⟨p, d, rfl, hp, hl, q⟩ := h
    refine ⟨_, (pss_one (ps_ret (pe_lst (pa_cons (pe_gs rfl T.m_NOTHING) (StX.pa_star (pe_m0' (pv 0) PI.cls cEvents hr (by decide)) pa_nil))))), ?_⟩
    obtain ⟨dx, o, r, cc, ts0, g1, _⟩ := id hp.ex
    refine ⟨_, rfl, p, dx, _, rfl, g1, rfl, p, d, rfl, hp, fun l nl => ⟨l, _, rfl, .inr (.inl (.inl upd_same)), ?_, fun D hD => ?_⟩⟩
    · rw [List.append_nil, List.length_cons, List.length_map]
      exact Nat.le_trans (by omega) (sz 100)
    · have s1 : Same H (upd H l (.lst (d.evs.map V.str))) := same_upd nl
      refine q D _ (Same.trans s1 (same_upd hD)) (s1.free hD) ?_
      rw [upd_same, List.append_nil]
      rfl
/-! ### the rows of a plan, each with where it leads -/
abbrev PRow := Str × Str × Int × Str × V
def rowPV (r : PRow) (t : Addr) : List V := [.str r.1, .str r.2.1, .int r.2.2.1, .ref t]
def RowsAt (H : Hp) (as : List Addr) (rs : List PRow) : Prop := Paired (fun a r => ∃ t, H a = some (.tup (rowPV r t)) ∧ H t = some (.tup [.str r.2.2.2.1, r.2.2.2.2])) as rs
theorem RowsAt.keep {H H' : Hp} {as : List Addr} {rs : List PRow} (h : RowsAt H as rs) (k : ∀ a xs, H a = some (.tup xs) → H' a = some (.tup xs)) : RowsAt H' as rs := Paired.mapP h fun _ _ ⟨t, h1, h2⟩ => ⟨t, k _ _ h1, k _ _ h2⟩
theorem RowsAt.same {H H' : Hp} {as : List Addr} {rs : List PRow} (h : RowsAt H as rs) (s : Same H H') : RowsAt H' as rs := h.keep fun _ _ e => s _ _ e
theorem RowsAt.put {H : Hp} {as : List Addr} {rs : List PRow} {D : Addr} {o u : HO} (h : RowsAt H as rs) (hD : H D = some u) (hu : ∀ xs, u ≠ .tup xs) : RowsAt (upd H D o) as rs := h.keep fun a xs e => by
  rw [upd_ne]
  · exact e
  · intro z
    rw [z, hD] at e
    exact hu _ (Option.some.inj e)
theorem RowsAt.snoc {H : Hp} {as : List Addr} {rs : List PRow} {a t : Addr} {r : PRow} (h : RowsAt H as rs) (h1 : H a = some (.tup (rowPV r t))) (h2 : H t = some (.tup [.str r.2.2.2.1, r.2.2.2.2])) : RowsAt H (as ++ [a]) (rs ++ [r]) := by
  unfold RowsAt at *
  induction h with
  | nil => exact .cons ⟨t, h1, h2⟩ .nil
  | cons r _ ih => exact .cons r ih
theorem RowsAt.app {H : Hp} {as bs : List Addr} {rs ss : List PRow} (h : RowsAt H as rs) (h2 : RowsAt H bs ss) : RowsAt H (as ++ bs) (rs ++ ss) := by
  unfold RowsAt at *
  induction h with
  | nil => exact h2
  | cons r _ ih => exact .cons r ih
theorem RowsAt.len {H : Hp} {as : List Addr} {rs : List PRow} (h : RowsAt H as rs) : as.length = rs.length := Paired.length h
def capOf (cs : List (Str × Int)) (e : Str) : Option Int := (cs.find? fun c => decide (c.1 = e)).map (·.2)
theorem valV_capOf {cs : List (Str × Int)} {e : Str} : valV (capsV cs) (.inr e) = (capOf cs e).map V.int := by
  induction cs with
  | nil => rfl
  | cons c r ih =>
    show Option.map (·.2) (List.find? _ ((.inr c.1, .int c.2) :: capsV r)) = Option.map V.int (Option.map (·.2) (List.find? _ (c :: r)))
    rw [List.find?_cons, List.find?_cons]
    by_cases h : c.1 = e
    · rw [decide_eq_true h, decide_eq_true (show (Sum.inr c.1 : Key) = .inr e by rw [h])]
      rfl
    · rw [decide_eq_false h, decide_eq_false (fun q : (Sum.inr c.1 : Key) = .inr e => h (Sum.inr.inj q))]
      exact ih
def rowsT (ties : List (Str × Str × Int)) : List PRow := ties.zipIdx.map fun t => (t.1.1, t.1.2.1, t.1.2.2, ("tie" : Str), V.int (t.2 : Nat))
def rowsC (cs : List (Str × Int)) (es : List Str) : List PRow := (es.filter fun e => (capOf cs e).isSome).map fun e => (("" : Str), e, (capOf cs e).getD 0, ("limit" : Str), V.str e)
def rowsN (es : List Str) : List PRow := es.map fun e => (e, ("" : Str), (0 : Int), ("none" : Str), V.str e)
def planRows (d : PlanD) : List PRow := rowsT d.ties ++ rowsC d.caps d.evs ++ rowsN d.evs
theorem rowsT_snoc {ties : List (Str × Str × Int)} {i : Nat} {t : Str × Str × Int} (h : ties[i]? = some t) : rowsT (ties.take (i + 1)) = rowsT (ties.take i) ++ [(t.1, t.2.1, t.2.2, ("tie" : Str), V.int (i : Nat))] := by
  have hi := (List.getElem?_eq_some_iff.mp h).1
  unfold rowsT
  rw [List.take_add_one, h]
  show List.map _ (List.zipIdx (ties.take i ++ [t])) = _
  rw [List.zipIdx_append, List.map_append, List.length_take, Nat.min_eq_left (Nat.le_of_lt hi), Nat.zero_add]
  rfl
/-- one row more in a comprehension -/
theorem row_step {H3 H5 : Hp} {D T1 T2 : Addr} {as : List Addr} {rs rs' : List PRow} {i n : Nat} {f l k : Str} {a : Int} {x : V} (hD : H3 D = none) (hD5 : H5 D = some (.lst (as.map V.ref))) (hR : RowsAt H5 as rs) (s : Same H3 H5) (hla : as.length ≤ i) (hi : i < n) (e : rs' = rs ++ [(f, l, a, k, x)])
    (n2 : H5 T2 = none) (n1 : (upd H5 T2 (.tup [.str k, x])) T1 = none) (h60 : n ≤ 100 := by omega) : ∃ acc, (upd (upd H5 T2 (.tup [.str k, x])) T1 (.tup [.str f, .str l, .int a, .ref T2])) D = some (.lst acc) ∧ acc.length < sizeLine ∧
    (Same H3 (upd (upd (upd H5 T2 (.tup [.str k, x])) T1 (.tup [.str f, .str l, .int a, .ref T2])) D (.lst (acc ++ [.ref T1]))) ∧ ∃ as', (upd (upd (upd H5 T2 (.tup [.str k, x])) T1 (.tup [.str f, .str l, .int a, .ref T2])) D (.lst (acc ++ [.ref T1]))) D = some (.lst (as'.map V.ref)) ∧
      RowsAt (upd (upd (upd H5 T2 (.tup [.str k, x])) T1 (.tup [.str f, .str l, .int a, .ref T2])) D (.lst (acc ++ [.ref T1]))) as' rs' ∧ as'.length ≤ i + 1) := by
  have s2 : Same H5 (upd (upd H5 T2 (.tup [.str k, x])) T1 (.tup [.str f, .str l, .int a, .ref T2])) := Same.trans (same_upd n2) (same_upd n1)
  have h12 : T2 ≠ T1 := fun z => by
    rw [← z, upd_same] at n1
    cases n1
  have hd := s2 _ _ hD5
  have ht1 : (upd (upd H5 T2 (.tup [.str k, x])) T1 (.tup [.str f, .str l, .int a, .ref T2])) T1 = some (.tup (rowPV (f, l, a, k, x) T2)) := upd_same
  have ht2 : (upd (upd H5 T2 (.tup [.str k, x])) T1 (.tup [.str f, .str l, .int a, .ref T2])) T2 = some (.tup [.str k, x]) := by
    rw [upd_ne h12, upd_same]
  refine ⟨_, hd, ?_, same_put hD (Same.trans s s2), as ++ [T1], by rw [upd_same, List.map_append]; rfl, ?_, by rw [List.length_append]; show _ + 1 ≤ _; omega⟩
  · rw [List.length_map]
    exact Nat.lt_of_lt_of_le (by omega) (sz 1000)
  · rw [e]
    exact ((hR.same s2).snoc (r := (f, l, a, k, x)) ht1 ht2).put hd fun _ z => nomatch z
def spRows (K : PySem.W.Frag) (C : Addr) : Sp := fun vs H Q _ => ∃ (p : Addr) (d : PlanD), vs = [.ref p] ∧ PlanAt K C H p d ∧ PlanOk d ∧ ∀ q as H', Same H H' → H q = none → H' q = some (.lst (as.map V.ref)) → RowsAt H' as (planRows d) → Q (.ref q) H'
theorem ok_placed_rows {C f : Addr} {fd : FuncData} (F : Fun K "placed_rows" "placed_rows" s_placed_rows f fd) (T : Txt mg) (PI : PlanI K C) (cEvents : CalM P w K mg base 1 C "events" (spPEvents K C)) (cTies : CalM P w K mg base 1 C "ties" (spPTies K C)) (cLimits : CalM P w K mg base 1 C "limits" (spPLimits K C)) :
    FnOk P w K mg base CX0 2 f fd ["plan"] (spRows K C) := by
  have nd := sc_placed_rows.nd
  refine F.ok sc_placed_rows (fun vs H Q E h => ?_) (fun cdv A outer s H vs Q E hr h => ?_)
  · obtain ⟨_, _, rfl, _⟩ := h
    rfl
  · obtain ⟨p, d, rfl, hp, ok, q⟩ := h
    have hu := hu_of hr
    have hl8 := ok.evs.hi
    have ht60 := ok.tl
    refine ⟨_, (pss_cons (ps_set (i := 1) nd rfl (Or.inl rfl) (pe_m0' (pv 0) PI.cls cEvents hr (by decide)))
      (pss_cons (ps_set (i := 2) nd rfl (Or.inr rfl) (pe_m0' (pv 0) PI.cls cLimits hr (by decide)))
      (pss_cons (ps_setLc (i := 3) (y := "rows") (own := [("index", 4), ("earlier", 5), ("later", 6), ("lag", 7)]) (g := (gTup K 2 (gCons (gName 4) (gCons (gTup K 3 (gCons (gName 5) (gCons (gName 6) (gCons (gName 7) gNil)))) gNil)))) (tt := tYes) rfl nd rfl rfl (sw_true rfl rfl rfl (by decide +kernel)) (pi_enum rfl T.m_enumerate (pa_cons (pe_m0' (pv 0) PI.cls cTies hr (by decide)) pa_nil)) (blkOk_by (N := ["plan", "events", "limits", "rows", "index", "earlier", "later", "lag", "event"]) (sc := defScope s_placed_rows) (by decide +kernel)) (fun _ _ _ _ _ => (pg_tup rfl (pgs_cons (pg_name (i := 4) nd rfl (Or.inl rfl)) (pgs_cons (pg_tup rfl (pgs_cons (pg_name (i := 5) nd rfl (Or.inl rfl)) (pgs_cons (pg_name (i := 6) nd rfl (Or.inl rfl)) (pgs_cons (pg_name (i := 7) nd rfl (Or.inl rfl)) pgs_nil)))) pgs_nil)))) (fun _ _ _ _ _ => pts_nil) (fun _ _ _ _ _ => (pe_tup (pa_cons (pv 5) (pa_cons (pv 6) (pa_cons (pv 7) (pa_cons (pe_tup (pa_cons pe_str (pa_cons (pv 4) pa_nil))) pa_nil)))))))
      (pss_cons (ps_expr (pe_bm PySem.F.plainAttrs_list PySem.F.slot_list_extend PySem.F.type_list_extend mt_extend (pv 3) (pa_cons (pe_lc (own := [("event", 8)]) (g := gName 8) rfl nd (pi_list (pv 1)) (blkOk_by (N := ["plan", "events", "limits", "rows", "index", "earlier", "later", "lag", "event"]) (sc := defScope s_placed_rows) (by decide +kernel)) (fun _ _ _ _ _ => pg_name (i := 8) nd rfl (Or.inl rfl)) (fun _ _ _ _ _ => pts_one (pt_cmp (pc_din hu (pv 8) (pv 2)) (by rfl))) (fun _ _ _ _ _ => (pe_tup (pa_cons (pe_gs rfl T.m_NOTHING) (pa_cons (pv 8) (pa_cons (pe_dget hu (pv 2) (pv 8) (fun _ _ => rfl)) (pa_cons (pe_tup (pa_cons pe_str (pa_cons (pv 8) pa_nil))) pa_nil))))))) pa_nil)))
      (pss_cons (ps_expr (pe_bm PySem.F.plainAttrs_list PySem.F.slot_list_extend PySem.F.type_list_extend mt_extend (pv 3) (pa_cons (pe_lc (own := [("event", 8)]) (g := gName 8) (tt := tYes) rfl nd (pi_list (pv 1)) (blkOk_by (N := ["plan", "events", "limits", "rows", "index", "earlier", "later", "lag", "event"]) (sc := defScope s_placed_rows) (by decide +kernel)) (fun _ _ _ _ _ => pg_name (i := 8) nd rfl (Or.inl rfl)) (fun _ _ _ _ _ => pts_nil) (fun _ _ _ _ _ => (pe_tup (pa_cons (pv 8) (pa_cons (pe_gs rfl T.m_NOTHING) (pa_cons pe_int (pa_cons (pe_tup (pa_cons pe_str (pa_cons (pv 8) pa_nil))) pa_nil))))))) pa_nil)))
      (pss_one (ps_ret (pv 3)))))))), ?_⟩
    obtain ⟨dx, o, r, cc, ts0, g1, _⟩ := id hp.ex
    refine seq_asg ?_
    refine ⟨_, rfl, p, dx, _, rfl, g1, rfl, p, d, rfl, hp, fun l nl => ?_⟩
    have hl1 : (upd H l (.lst (d.evs.map V.str))) l = some (.lst (d.evs.map V.str)) := upd_same
    have s1 : Same H (upd H l (.lst (d.evs.map V.str))) := same_upd nl
    revert hl1 s1
    generalize upd H l (.lst (d.evs.map V.str)) = H1
    intro hl1 s1
    have hp1 := hp.same s1
    obtain ⟨dx1, o1, r1, cc1, ts1, g2, _⟩ := id hp1.ex
    refine gname (seq_asg ?_)
    refine ⟨_, rfl, p, dx1, _, rfl, g2, rfl, p, d, rfl, hp1, fun m nm => ?_⟩
    have hl2 : (upd H1 m (.dK (capsV d.caps))) l = some (.lst (d.evs.map V.str)) := same_upd nm _ _ hl1
    have hm2 : (upd H1 m (.dK (capsV d.caps))) m = some (.dK (capsV d.caps)) := upd_same
    have s2 : Same H (upd H1 m (.dK (capsV d.caps))) := Same.trans s1 (same_upd nm)
    revert hl2 hm2 s2
    generalize upd H1 m (.dK (capsV d.caps)) = H2
    intro hl2 hm2 s2
    clear g1 g2 hl1 s1 hp1 nl nm
    have hp2 := hp.same s2
    obtain ⟨dx2, o2, r2, cc2, ts2, g3, _⟩ := id hp2.ex
    refine gname (seq_asg ?_)
    refine ⟨_, rfl, p, dx2, _, rfl, g3, rfl, p, d, rfl, hp2, fun t ts nt htl => ⟨t, _, rfl, .inl (.inl upd_same), fun D hD => ?_⟩⟩
    have ht3 : (upd H2 t (.lst (ts.map V.ref))) t = some (.lst (ts.map V.ref)) := upd_same
    have s23 : Same H2 (upd H2 t (.lst (ts.map V.ref))) := same_upd nt
    have htl3 := htl.same s23
    revert hD ht3 s23 htl3
    generalize upd H2 t (.lst (ts.map V.ref)) = H3
    intro hD ht3 s23 htl3
    clear htl nt g3
    have s03 := Same.trans s2 s23
    have hlD : l ≠ D := ne_of_none (s23 _ _ hl2) hD
    refine lc_it (walk_enum (K := K) (a := t) (xs := ts.map V.ref)) (fun i H' => Same H3 H' ∧ ∃ as, H' D = some (.lst (as.map V.ref)) ∧ RowsAt H' as (rowsT (d.ties.take i)) ∧ as.length ≤ i) ⟨same_upd hD, [], upd_same, .nil, Nat.le_refl _⟩ (fun i H' _ pv => .inl (.inl (pv.1 _ _ ht3))) (fun i x H4 H5 hi pv yv => ?_) (fun H4 pv => ?_)
    · obtain ⟨s4, as, hD4, hR4, hla⟩ := pv
      obtain ⟨TT, u, z, rfl, nT, rfl, hu', hz⟩ := yv
      cases hu'
      obtain ⟨ct, tt, rfl, hmem, hget, hcell⟩ := (htl3.same s4).get hz
      rw [List.length_map, htl3.length] at hi
      have s45 : Same H4 (upd H4 TT (.tup [.int (i : Nat), .ref ct])) := same_upd nT
      have hcell5 := s45 _ _ hcell
      have hTT : (upd H4 TT (.tup [.int (i : Nat), .ref ct])) TT = some (.tup [.int (i : Nat), .ref ct]) := upd_same
      have s35 := Same.trans s4 s45
      have hD5 := s45 _ _ hD4
      have hR5 := hR4.same s45
      revert hTT hcell5 s35 hD5 hR5
      clear s45 hcell hR4 hD4 s4
      generalize upd H4 TT (.tup [.int (i : Nat), .ref ct]) = H5
      intro hcell5 hTT s35 hD5 hR5
      refine ⟨TT, _, rfl, .inl (.inl hTT), rfl, _, _, rfl, _, _, rfl, ct, _, rfl, .inl (.inl hcell5), rfl, _, _, rfl, _, _, rfl, _, _, rfl, rfl, rfl, rfl, ?_⟩
      refine ⟨_, rfl, _, rfl, _, rfl, _, rfl, sz 2, fun T2 nT2 => ⟨sz 4, fun T1 nT1 => ?_⟩⟩
      exact row_step hD hD5 hR5 s35 hla hi (rowsT_snoc hget) nT2 nT1
    · obtain ⟨s4, as1, hD4, hR4, hla⟩ := pv
      rw [List.length_map, htl3.length, List.take_length] at hR4
      rw [List.length_map, htl3.length] at hla
      have nD : H D = none := s03.free hD
      have s04 := Same.trans s03 s4
      have hl4 := s4 _ _ (s23 _ _ hl2)
      have hm4 := s4 _ _ (s23 _ _ hm2)
      refine gname (seq_st ?_)
      clear s4 hD ht3 htl3 s23 hl2 hm2 s03
      -- the limits
      refine ⟨_, rfl, .inl ⟨rfl, _, .inl (.inl hD4)⟩, _, rfl, l, rfl, ⟨_, .inl (.inl hl4)⟩, fun D2 hD2 => ?_⟩
      refine lc_it (walk_list (K := K) (a := l) (xs := d.evs.map V.str)) (fun i H' => Same H4 H' ∧ ∃ as, H' D2 = some (.lst (as.map V.ref)) ∧ RowsAt H' as (rowsC d.caps (d.evs.take i)) ∧ as.length ≤ i) ⟨same_upd hD2, [], upd_same, .nil, Nat.le_refl _⟩ (fun i H' _ pv => .inl (.inl (pv.1 _ _ hl4))) (fun i x H5 H6 hi pv yv => ?_) (fun H5 pv => ?_)
      · obtain ⟨s5, as, hD5, hR5, hla5⟩ := pv
        obtain ⟨rfl, hx⟩ := yv
        rw [List.length_map] at hi
        rw [List.getElem?_map, List.getElem?_eq_getElem hi] at hx
        cases hx
        have hm5 := s5 _ _ hm4
        refine ⟨rfl, _, rfl, _, rfl, m, _, rfl, .inl ⟨capsV d.caps, .inr d.evs[i], .inl hm5, rfl, rfl⟩, _, rfl, ite2 (fun e1 => ?_) (fun e1 => ?_)⟩
        · have hv := valV_capOf (cs := d.caps) (e := d.evs[i])
          obtain ⟨c, hc⟩ : ∃ c, capOf d.caps d.evs[i] = some c := by
            cases hh : capOf d.caps d.evs[i] with
            | some c => exact ⟨c, rfl⟩
            | none =>
              rw [hv, hh] at e1
              cases e1
          rw [hc] at hv
          refine ⟨_, rfl, _, rfl, _, rfl, m, _, rfl, .inl ⟨capsV d.caps, .inr d.evs[i], .inl hm5, rfl, hv.symm⟩, _, rfl, sz 2, fun T2 nT2 => ⟨sz 4, fun T1 nT1 => ?_⟩⟩
          refine row_step hD2 hD5 hR5 s5 hla5 hi ?_ nT2 nT1
          unfold rowsC
          rw [List.take_add_one, List.getElem?_eq_getElem hi, List.filter_append, List.map_append]
          show _ ++ List.map _ (List.filter _ [d.evs[i]]) = _
          rw [List.filter_cons, if_pos (by rw [hc]; rfl), List.filter_nil, List.map_cons, hc]
          rfl
        · refine ⟨s5, as, hD5, ?_, Nat.le_succ_of_le hla5⟩
          have hz : rowsC d.caps (d.evs.take (i + 1)) = rowsC d.caps (d.evs.take i) := by
            unfold rowsC
            rw [List.take_add_one, List.getElem?_eq_getElem hi, List.filter_append]
            show List.map _ (_ ++ List.filter _ [d.evs[i]]) = _
            rw [List.filter_cons, if_neg, List.filter_nil, List.append_nil]
            intro h
            have hv := valV_capOf (cs := d.caps) (e := d.evs[i])
            obtain ⟨c, hc⟩ := Option.isSome_iff_exists.mp h
            rw [hc] at hv
            exact e1 (by rw [hv]; rfl)
          rw [hz]
          exact hR5
      obtain ⟨s5, as2, hD25, hR25, hla2⟩ := pv
      rw [List.length_map, List.take_length] at hR25
      rw [List.length_map] at hla2
      have hD5 := s5 _ _ hD4
      have hne2 : D ≠ D2 := ne_of_none hD4 hD2
      have hR5 := hR4.same s5
      refine ⟨D, D2, _, _, rfl, rfl, hD5, hD25, ?_, ?_⟩
      · rw [List.length_map, List.length_map]
        exact Nat.le_trans (by omega) (sz 1000)
      have hD6 : (upd H5 D (.lst (as1.map V.ref ++ as2.map V.ref))) D = some (.lst ((as1 ++ as2).map V.ref)) := by
        rw [upd_same, List.map_append]
      have s06 : Same H (upd H5 D (.lst (as1.map V.ref ++ as2.map V.ref))) := same_put nD (Same.trans s04 s5)
      have hR6 : RowsAt (upd H5 D (.lst (as1.map V.ref ++ as2.map V.ref))) (as1 ++ as2) (rowsT d.ties ++ rowsC d.caps d.evs) := (hR5.app hR25).put hD5 fun _ z => nomatch z
      have hl6 : (upd H5 D (.lst (as1.map V.ref ++ as2.map V.ref))) l = some (.lst (d.evs.map V.str)) := by
        rw [upd_ne]
        · exact s5 _ _ hl4
        · exact hlD
      revert hD6 s06 hR6 hl6
      clear hR5 hR25 hD25 hD5 s5 hR4 hD4 hl4 hm4 hD2 s04
      generalize upd H5 D (.lst (as1.map V.ref ++ as2.map V.ref)) = H6
      intro hD6 s06 hR6 hl6
      -- none below nothing
      refine seq_st ?_
      refine ⟨_, rfl, .inl ⟨rfl, _, .inl (.inl hD6)⟩, _, rfl, l, rfl, ⟨_, .inl (.inl hl6)⟩, fun D3 hD3 => ?_⟩
      refine lc_it (walk_list (K := K) (a := l) (xs := d.evs.map V.str)) (fun i H' => Same H6 H' ∧ ∃ as, H' D3 = some (.lst (as.map V.ref)) ∧ RowsAt H' as (rowsN (d.evs.take i)) ∧ as.length ≤ i) ⟨same_upd hD3, [], upd_same, .nil, Nat.le_refl _⟩ (fun i H' _ pv => .inl (.inl (pv.1 _ _ hl6))) (fun i x H7 H8 hi pv yv => ?_) (fun H7 pv => ?_)
      · obtain ⟨s7, as, hD7, hR7, hla7⟩ := pv
        obtain ⟨rfl, hx⟩ := yv
        rw [List.length_map] at hi
        rw [List.getElem?_map, List.getElem?_eq_getElem hi] at hx
        cases hx
        refine ⟨rfl, _, rfl, _, rfl, sz 2, fun T2 nT2 => ⟨sz 4, fun T1 nT1 => ?_⟩⟩
        refine row_step hD3 hD7 hR7 s7 hla7 hi ?_ nT2 nT1
        unfold rowsN
        rw [List.take_add_one, List.getElem?_eq_getElem hi, List.map_append]
        rfl
      obtain ⟨s7, as3, hD37, hR37, hla3⟩ := pv
      rw [List.length_map, List.take_length] at hR37
      rw [List.length_map] at hla3
      have hD7 := s7 _ _ hD6
      refine ⟨D, D3, _, _, rfl, rfl, hD7, hD37, ?_, ?_⟩
      · rw [List.length_map, List.length_map, List.length_append]
        exact Nat.le_trans (by omega) (sz 1000)
      refine ⟨_, rfl, q D (as1 ++ as2 ++ as3) _ (same_put nD (Same.trans s06 s7)) nD (by rw [upd_same, List.map_append (l₁ := as1 ++ as2)]) (((hR6.same s7).app hR37).put hD7 fun _ z => nomatch z)⟩

end
end Pk

set_option Elab.async false
set_option linter.all false
/-! closed sums as plain data: rows put one after another, then one place in the middle after another -/
namespace Pu
open PySem PySem.Spec PyProof.Rows L2
section
variable {β : Type}
def getR : List (Str × β) → Str → Option β
  | [], _ => none
  | c :: r, k => if c.1 = k then some c.2 else getR r k
def putR : List (Str × β) → Str → β → List (Str × β)
  | [], k, v => [(k, v)]
  | c :: r, k, v => if c.1 = k then (k, v) :: r else c :: putR r k v
theorem getR_put (r : List (Str × β)) (k j : Str) (v : β) : getR (putR r k v) j = if j = k then some v else getR r j := by
  induction r with
  | nil =>
    show (if k = j then some v else none) = _
    by_cases e : j = k
    · rw [if_pos e, if_pos e.symm]
    · rw [if_neg e, if_neg (fun z => e z.symm)]; rfl
  | cons c r ih =>
    unfold putR
    by_cases h : c.1 = k
    · rw [if_pos h]
      show (if k = j then some v else getR r j) = _
      by_cases e : j = k
      · rw [if_pos e, if_pos e.symm]
      · rw [if_neg e, if_neg (fun z => e z.symm)]
        show _ = if c.1 = j then some c.2 else getR r j
        rw [if_neg (fun z => e (z.symm.trans h))]
    · rw [if_neg h]
      show (if c.1 = j then some c.2 else getR (putR r k v) j) = _
      rw [ih]
      by_cases e : c.1 = j
      · rw [if_pos e, if_neg (fun z => h (e.trans z))]
        show _ = if c.1 = j then some c.2 else getR r j
        rw [if_pos e]
      · rw [if_neg e]
        by_cases z : j = k
        · rw [if_pos z, if_pos z]
        · rw [if_neg z, if_neg z]
          show _ = if c.1 = j then some c.2 else getR r j
          rw [if_neg e]
theorem getR_mem {r : List (Str × β)} {k : Str} {v : β} (h : getR r k = some v) : (k, v) ∈ r := by
  induction r with
  | nil => cases h
  | cons c r ih =>
    have h : (if c.1 = k then some c.2 else getR r k) = some v := h
    by_cases e : c.1 = k
    · rw [if_pos e] at h
      cases h
      rw [← e]
      exact List.mem_cons_self ..
    · rw [if_neg e] at h
      exact List.mem_cons_of_mem _ (ih h)
theorem getR_none {r : List (Str × β)} {k : Str} (h : k ∉ r.map (·.1)) : getR r k = none := by
  induction r with
  | nil => rfl
  | cons c r ih =>
    rw [List.map_cons, List.mem_cons, not_or] at h
    show (if c.1 = k then some c.2 else getR r k) = none
    rw [if_neg (fun z => h.1 z.symm)]
    exact ih h.2
theorem getR_nd {r : List (Str × β)} {k : Str} {v : β} (nd : (r.map (·.1)).Nodup) (h : (k, v) ∈ r) : getR r k = some v := by
  induction r with
  | nil => cases h
  | cons c r ih =>
    rw [List.map_cons, List.nodup_cons] at nd
    show (if c.1 = k then some c.2 else getR r k) = some v
    rcases List.mem_cons.mp h with e | e
    · rw [← e, if_pos rfl]
    · rw [if_neg (fun z : c.1 = k => nd.1 (z ▸ List.mem_map_of_mem (f := (·.1)) e))]
      exact ih nd.2 e
theorem putR_keys (r : List (Str × β)) (k : Str) (v : β) : ∀ j, j ∈ (putR r k v).map (·.1) ↔ j = k ∨ j ∈ r.map (·.1) := by
  induction r with
  | nil => intro j; simp [putR]
  | cons c r ih =>
    intro j
    unfold putR
    by_cases h : c.1 = k
    · rw [if_pos h]; simp [h]
    · rw [if_neg h, List.map_cons, List.mem_cons, ih, List.map_cons, List.mem_cons]
      constructor
      · rintro (e | e | e)
        · exact .inr (.inl e)
        · exact .inl e
        · exact .inr (.inr e)
      · rintro (e | e | e)
        · exact .inr (.inl e)
        · exact .inl e
        · exact .inr (.inr e)
theorem putR_nd {r : List (Str × β)} (k : Str) (v : β) (nd : (r.map (·.1)).Nodup) : ((putR r k v).map (·.1)).Nodup := by
  induction r with
  | nil => simp [putR]
  | cons c r ih =>
    rw [List.map_cons, List.nodup_cons] at nd
    unfold putR
    by_cases h : c.1 = k
    · rw [if_pos h, List.map_cons, List.nodup_cons]
      exact ⟨h ▸ nd.1, nd.2⟩
    · rw [if_neg h, List.map_cons, List.nodup_cons]
      refine ⟨fun z => ?_, ih nd.2⟩
      rcases (putR_keys r k v c.1).mp z with e | e
      · exact h e
      · exact nd.1 e
end
/-- a row of sums and a row of ways -/
abbrev SR := List (Str × Int)
abbrev WR := List (Str × (Str ⊕ Addr))
def better : Option Int → Int → Bool
  | none, _ => true
  | some u, v => decide (v < u)
/-- one row of the plan -/
def rowR (l : Str) (a : Int) (t : Addr) (k : SR × WR) : SR × WR := if better (getR k.1 l) a then (putR k.1 l a, putR k.2 l (.inr t)) else k
/-- one sum beyond -/
def oneR (m : Str) (a : Int) (k : SR × WR) (c : Str × Int) : SR × WR := if better (getR k.1 c.1) (a + c.2) then (putR k.1 c.1 (a + c.2), putR k.2 c.1 (.inl m)) else k
def relaxR (m : Str) (a : Int) (bey : SR) (k : SR × WR) : SR × WR := bey.foldl (oneR m a) k
def phaseR (m : Str) (bey : SR) (k : SR × WR) : SR × WR := match getR k.1 m with
  | none => k
  | some a => relaxR m a bey k
def setR (Z : Str → SR × WR) (f : Str) (k : SR × WR) : Str → SR × WR := fun g => if g = f then k else Z g
/-- the middle m for the places of ps -/
def phaseZ (m : Str) (ps : List Str) (Z : Str → SR × WR) : Str → SR × WR := fun f => if f ∈ ps ∧ f ≠ m then phaseR m (Z m).1 (Z f) else Z f
def closeZ (ps : List Str) (n : Nat) (Z : Str → SR × WR) : Str → SR × WR := (ps.take n).foldl (fun Z m => phaseZ m ps Z) Z
def beginZ : Str → SR × WR := fun f => ([(f, 0)], [])
abbrev TRow := Str × Str × Int × Addr
def rowZ (Z : Str → SR × WR) (r : TRow) : Str → SR × WR := setR Z r.1 (rowR r.2.1 r.2.2.1 r.2.2.2 (Z r.1))
def rowsZ (rs : List TRow) : Str → SR × WR := rs.foldl rowZ beginZ
/-! lookups -/
abbrev sOf (Z : Str → SR × WR) (f l : Str) : Option Int := getR (Z f).1 l
abbrev wOf (Z : Str → SR × WR) (f l : Str) : Option (Str ⊕ Addr) := getR (Z f).2 l
theorem relax_get (m : Str) (a : Int) : ∀ (bey : SR) (k : SR × WR) (_ : (bey.map (·.1)).Nodup) (l : Str),
    (getR bey l = none ∧ getR (relaxR m a bey k).1 l = getR k.1 l ∧ getR (relaxR m a bey k).2 l = getR k.2 l) ∨
    ∃ c, getR bey l = some c ∧ ((better (getR k.1 l) (a + c) = true ∧ getR (relaxR m a bey k).1 l = some (a + c) ∧ getR (relaxR m a bey k).2 l = some (.inl m)) ∨
      (better (getR k.1 l) (a + c) = false ∧ getR (relaxR m a bey k).1 l = getR k.1 l ∧ getR (relaxR m a bey k).2 l = getR k.2 l))
  | [], k, _, l => .inl ⟨rfl, rfl, rfl⟩
  | c :: r, k, nd, l => by
    rw [List.map_cons, List.nodup_cons] at nd
    have ih := relax_get m a r (oneR m a k c) nd.2 l
    show (getR (c :: r) l = none ∧ getR (relaxR m a r (oneR m a k c)).1 l = _ ∧ getR (relaxR m a r (oneR m a k c)).2 l = _) ∨ ∃ v, getR (c :: r) l = some v ∧ ((_ ∧ getR (relaxR m a r (oneR m a k c)).1 l = _ ∧ getR (relaxR m a r (oneR m a k c)).2 l = _) ∨ (_ ∧ getR (relaxR m a r (oneR m a k c)).1 l = _ ∧ getR (relaxR m a r (oneR m a k c)).2 l = _))
    by_cases e : c.1 = l
    · have g : getR (c :: r) l = some c.2 := if_pos e
      have n : getR r l = none := getR_none (e ▸ nd.1)
      rcases ih with ⟨_, h1, h2⟩ | ⟨v, h, _⟩
      · refine .inr ⟨c.2, g, ?_⟩
        cases b : better (getR k.1 l) (a + c.2) with
        | true =>
          refine .inl ⟨rfl, ?_, ?_⟩
          · rw [h1]
            unfold oneR
            rw [e, if_pos b]
            exact (getR_put ..).trans (if_pos rfl)
          · rw [h2]
            unfold oneR
            rw [e, if_pos b]
            exact (getR_put ..).trans (if_pos rfl)
        | false =>
          have hb : ¬ better (getR k.1 l) (a + c.2) = true := by rw [b]; decide
          refine .inr ⟨rfl, ?_, ?_⟩
          · rw [h1]
            unfold oneR
            rw [e, if_neg hb]
          · rw [h2]
            unfold oneR
            rw [e, if_neg hb]
      · rw [n] at h
        cases h
    · have g : getR (c :: r) l = getR r l := if_neg e
      have o1 : getR (oneR m a k c).1 l = getR k.1 l := by
        unfold oneR
        by_cases b : better (getR k.1 c.1) (a + c.2) = true
        · rw [if_pos b]
          exact (getR_put ..).trans (if_neg (fun z => e z.symm))
        · rw [if_neg b]
      have o2 : getR (oneR m a k c).2 l = getR k.2 l := by
        unfold oneR
        by_cases b : better (getR k.1 c.1) (a + c.2) = true
        · rw [if_pos b]
          exact (getR_put ..).trans (if_neg (fun z => e z.symm))
        · rw [if_neg b]
      rw [g, ← o1, ← o2]
      exact ih
/-- what stands in a row: keys of ps, each once -/
structure RowOk (ps : List Str) (k : SR × WR) : Prop where
  s1 : (k.1.map (·.1)).Nodup
  s2 : ∀ j ∈ k.1.map (·.1), j ∈ ps
  w1 : (k.2.map (·.1)).Nodup
  w2 : ∀ j ∈ k.2.map (·.1), j ∈ ps
theorem RowOk.put {ps : List Str} {k : SR × WR} (h : RowOk ps k) {l : Str} (hl : l ∈ ps) (v : Int) (w : Str ⊕ Addr) : RowOk ps (putR k.1 l v, putR k.2 l w) :=
  ⟨putR_nd _ _ h.s1, fun j hj => ((putR_keys _ _ _ _).mp hj).elim (fun e => e ▸ hl) (h.s2 j), putR_nd _ _ h.w1, fun j hj => ((putR_keys _ _ _ _).mp hj).elim (fun e => e ▸ hl) (h.w2 j)⟩
theorem RowOk.one {ps : List Str} {k : SR × WR} (h : RowOk ps k) {m : Str} {a : Int} {c : Str × Int} (hl : c.1 ∈ ps) : RowOk ps (oneR m a k c) := by
  unfold oneR
  split
  · exact h.put hl _ _
  · exact h
theorem RowOk.relax {ps : List Str} {m : Str} {a : Int} : ∀ {bey : SR} {k : SR × WR}, RowOk ps k → (∀ j ∈ bey.map (·.1), j ∈ ps) → RowOk ps (relaxR m a bey k)
  | [], _, h, _ => h
  | c :: r, k, h, hb => RowOk.relax (bey := r) (k := oneR m a k c) (h.one (hb _ (List.mem_cons_self ..))) (fun j hj => hb j (List.mem_cons_of_mem _ hj))
/-! ### the invariant -/
def wi (P : List Str) : Option (Str ⊕ Addr) → Nat
  | some (.inl k) => P.idxOf k + 1
  | _ => 0
structure SInv (ps P : List Str) (Z : Str → SR × WR) : Prop where
  ok : ∀ f ∈ ps, RowOk ps (Z f)
  nn : ∀ f ∈ ps, ∀ l v, sOf Z f l = some v → 0 ≤ v
  dg : ∀ f ∈ ps, sOf Z f f = some 0
  ws : ∀ f ∈ ps, ∀ l w, wOf Z f l = some w → (sOf Z f l).isSome
  tri : ∀ f ∈ ps, ∀ k ∈ P, ∀ l a b, sOf Z f k = some a → sOf Z k l = some b → ∃ v, sOf Z f l = some v ∧ v ≤ a + b
  mid : ∀ f ∈ ps, ∀ l k, wOf Z f l = some (.inl k) → k ∈ P ∧ ∃ a b, sOf Z f k = some a ∧ sOf Z k l = some b ∧ sOf Z f l = some (a + b) ∧ wi P (wOf Z f k) ≤ P.idxOf k ∧ wi P (wOf Z k l) ≤ P.idxOf k
theorem wi_app {P : List Str} {m : Str} {o : Option (Str ⊕ Addr)} (h : ∀ k, o = some (.inl k) → k ∈ P) : wi (P ++ [m]) o = wi P o := by
  unfold wi
  split
  · rename_i k
    rw [List.idxOf_append, if_pos (h k rfl)]
  · rfl
theorem wi_le {P : List Str} {o : Option (Str ⊕ Addr)} (h : ∀ k, o = some (.inl k) → k ∈ P) : wi P o ≤ P.length := by
  unfold wi
  split
  · rename_i k
    exact List.idxOf_lt_length_iff.mpr (h k rfl)
  · exact Nat.zero_le _
/-- what a place in the middle makes of one pair -/
theorem phase_get {ps P : List Str} {Z : Str → SR × WR} (I : SInv ps P Z) {m f : Str} (hm : m ∈ ps) (hf : f ∈ ps) (l : Str) :
    (∃ a b, sOf Z f m = some a ∧ sOf Z m l = some b ∧ better (sOf Z f l) (a + b) = true ∧ sOf (phaseZ m ps Z) f l = some (a + b) ∧ wOf (phaseZ m ps Z) f l = some (.inl m)) ∨
    ((∀ a b, sOf Z f m = some a → sOf Z m l = some b → better (sOf Z f l) (a + b) = false) ∧ sOf (phaseZ m ps Z) f l = sOf Z f l ∧ wOf (phaseZ m ps Z) f l = wOf Z f l) := by
  unfold phaseZ sOf wOf
  dsimp only
  by_cases e : f = m
  · rw [if_neg (fun z => z.2 e)]
    refine .inr ⟨fun a b ha hb => ?_, rfl, rfl⟩
    rw [e] at ha ⊢
    have := I.dg m hm
    unfold sOf at this
    rw [this] at ha
    cases ha
    rw [hb]
    show decide (0 + b < b) = false
    exact decide_eq_false (by omega)
  · rw [if_pos ⟨hf, e⟩]
    unfold phaseR
    cases ha : getR (Z f).1 m with
    | none => exact .inr ⟨fun a b h => (nomatch h), rfl, rfl⟩
    | some a =>
      show (∃ a' b, some a = some a' ∧ _ ∧ _ ∧ getR (relaxR m a (Z m).1 (Z f)).1 l = _ ∧ getR (relaxR m a (Z m).1 (Z f)).2 l = _) ∨ (_ ∧ getR (relaxR m a (Z m).1 (Z f)).1 l = _ ∧ getR (relaxR m a (Z m).1 (Z f)).2 l = _)
      rcases relax_get m a (Z m).1 (Z f) (I.ok m hm).s1 l with ⟨h0, h1, h2⟩ | ⟨c, hc, ⟨h0, h1, h2⟩ | ⟨h0, h1, h2⟩⟩
      · refine .inr ⟨fun a' b _ hb => ?_, h1, h2⟩
        rw [h0] at hb
        cases hb
      · exact .inl ⟨a, c, rfl, hc, h0, h1, h2⟩
      · refine .inr ⟨fun a' b ha' hb => ?_, h1, h2⟩
        cases ha'
        rw [hc] at hb
        cases hb
        exact h0
theorem better_none {o : Option Int} {v : Int} (h : better o v = false) : ∃ u, o = some u ∧ u ≤ v := by
  cases o with
  | none => cases h
  | some u =>
    have h : decide (v < u) = false := h
    exact ⟨u, rfl, by have := of_decide_eq_false h; omega⟩
theorem better_some {u v : Int} (h : better (some u) v = true) : v < u := of_decide_eq_true h
/-- after the middle m a sum is at most what it was, and at most what leads over m -/
theorem phase_le {ps P : List Str} {Z : Str → SR × WR} (I : SInv ps P Z) {m f : Str} (hm : m ∈ ps) (hf : f ∈ ps) {l : Str} : (∀ u, sOf Z f l = some u → ∃ v, sOf (phaseZ m ps Z) f l = some v ∧ v ≤ u) ∧ (∀ a b, sOf Z f m = some a → sOf Z m l = some b → ∃ v, sOf (phaseZ m ps Z) f l = some v ∧ v ≤ a + b) := by
  rcases phase_get I hm hf l with ⟨a, b, ha, hb, h0, h1, _⟩ | ⟨h0, h1, _⟩
  · refine ⟨fun u hu => ⟨_, h1, ?_⟩, fun a' b' ha' hb' => ⟨_, h1, ?_⟩⟩
    · rw [hu] at h0
      have := better_some h0
      omega
    · rw [ha] at ha'
      rw [hb] at hb'
      cases ha'
      cases hb'
      omega
  · refine ⟨fun u hu => ⟨u, h1.trans hu, Int.le_refl _⟩, fun a b ha hb => ?_⟩
    obtain ⟨u, hu, hl⟩ := better_none (h0 a b ha hb)
    exact ⟨u, h1.trans hu, hl⟩
/-- a sum after the middle m: as before, or over m -/
theorem phase_or {ps P : List Str} {Z : Str → SR × WR} (I : SInv ps P Z) {m f : Str} (hm : m ∈ ps) (hf : f ∈ ps) {l : Str} {v : Int} (h : sOf (phaseZ m ps Z) f l = some v) : sOf Z f l = some v ∨ ∃ a b, sOf Z f m = some a ∧ sOf Z m l = some b ∧ v = a + b := by
  rcases phase_get I hm hf l with ⟨a, b, ha, hb, h0, h1, _⟩ | ⟨h0, h1, _⟩
  · rw [h1] at h
    cases h
    exact .inr ⟨a, b, ha, hb, rfl⟩
  · rw [h1] at h
    exact .inl h
theorem mem_ps {ps P : List Str} {Z : Str → SR × WR} (I : SInv ps P Z) {f l : Str} {v : Int} (hf : f ∈ ps) (h : sOf Z f l = some v) : l ∈ ps :=
  (I.ok f hf).s2 l (List.mem_map_of_mem (f := (·.1)) (getR_mem h))
theorem SInv.phase {ps P : List Str} {Z : Str → SR × WR} (I : SInv ps P Z) {m : Str} (hm : m ∈ ps) (hn : m ∉ P) (hP : ∀ k ∈ P, k ∈ ps) : SInv ps (P ++ [m]) (phaseZ m ps Z) := by
  have fm : ∀ {f}, f ∈ ps → sOf (phaseZ m ps Z) f m = sOf Z f m ∧ wOf (phaseZ m ps Z) f m = wOf Z f m := by
    intro f hf
    rcases phase_get I hm hf m with ⟨a, b, ha, hb, h0, h1, _⟩ | ⟨h0, h1, h2⟩
    · rw [I.dg m hm] at hb
      cases hb
      rw [ha] at h0
      have := better_some h0
      omega
    · exact ⟨h1, h2⟩
  have mm : ∀ {l}, sOf (phaseZ m ps Z) m l = sOf Z m l ∧ wOf (phaseZ m ps Z) m l = wOf Z m l := by
    intro l
    unfold phaseZ sOf wOf
    dsimp only
    rw [if_neg (fun z => z.2 rfl)]
    exact ⟨rfl, rfl⟩
  have inP : ∀ {f l k}, f ∈ ps → wOf Z f l = some (.inl k) → k ∈ P := fun hf h => (I.mid _ hf _ _ h).1
  refine ⟨fun f hf => ?_, fun f hf l v h => ?_, fun f hf => ?_, fun f hf l w h => ?_, fun f hf k hk l a b ha hb => ?_, fun f hf l k h => ?_⟩
  · unfold phaseZ
    split
    · unfold phaseR
      split
      · exact I.ok f hf
      · exact (I.ok f hf).relax (I.ok m hm).s2
    · exact I.ok f hf
  · rcases phase_or I hm hf h with h | ⟨a, b, ha, hb, rfl⟩
    · exact I.nn f hf l v h
    · have := I.nn f hf _ _ ha
      have := I.nn m hm _ _ hb
      omega
  · rcases phase_get I hm hf f with ⟨a, b, ha, hb, h0, h1, _⟩ | ⟨h0, h1, h2⟩
    · rw [I.dg f hf] at h0
      have := better_some h0
      have := I.nn f hf _ _ ha
      have := I.nn m hm _ _ hb
      omega
    · exact h1.trans (I.dg f hf)
  · rcases phase_get I hm hf l with ⟨a, b, ha, hb, h0, h1, h2⟩ | ⟨h0, h1, h2⟩
    · rw [h1]; rfl
    · rw [h1]
      rw [h2] at h
      exact I.ws f hf l w h
  · rcases List.mem_append.mp hk with hk | hk
    · have hkp := hP k hk
      rcases phase_or I hm hf ha with ha | ⟨a1, a2, h1, h2, rfl⟩ <;> rcases phase_or I hm hkp hb with hb | ⟨b1, b2, h3, h4, rfl⟩
      · obtain ⟨v, hv, hl⟩ := I.tri f hf k hk l a b ha hb
        obtain ⟨u, hu, hl2⟩ := (phase_le I hm hf).1 v hv
        exact ⟨u, hu, by omega⟩
      · obtain ⟨v, hv, hl⟩ := I.tri f hf k hk m a b1 ha h3
        obtain ⟨u, hu, hl2⟩ := (phase_le I hm hf).2 v b2 hv h4
        exact ⟨u, hu, by omega⟩
      · obtain ⟨v, hv, hl⟩ := I.tri m hm k hk l a2 b h2 hb
        obtain ⟨u, hu, hl2⟩ := (phase_le I hm hf).2 a1 v h1 hv
        exact ⟨u, hu, by omega⟩
      · obtain ⟨u, hu, hl2⟩ := (phase_le I hm hf).2 a1 b2 h1 h4
        have := I.nn m hm _ _ h2
        have := I.nn k hkp _ _ h3
        exact ⟨u, hu, by omega⟩
    · rw [List.mem_singleton.mp hk] at ha hb
      rw [(fm hf).1] at ha
      rw [mm.1] at hb
      exact (phase_le I hm hf).2 a b ha hb
  · rcases phase_get I hm hf l with ⟨a, b, ha, hb, h0, h1, h2⟩ | ⟨h0, h1, h2⟩
    · rw [h2] at h
      cases h
      refine ⟨List.mem_append_right _ (List.mem_singleton.mpr rfl), a, b, (fm hf).1.trans ha, mm.1.trans hb, h1, ?_, ?_⟩
      · rw [(fm hf).2, wi_app fun k hk => inP hf hk, List.idxOf_append, if_neg hn]
        exact Nat.le_trans (wi_le fun k hk => inP hf hk) (Nat.le_add_left ..)
      · rw [mm.2, wi_app fun k hk => inP hm hk, List.idxOf_append, if_neg hn]
        exact Nat.le_trans (wi_le fun k hk => inP hm hk) (Nat.le_add_left ..)
    · rw [h2] at h
      obtain ⟨hk, a, b, ha, hb, hs, i1, i2⟩ := I.mid f hf l k h
      have hkp := hP k hk
      -- neither part has become less: the whole would have
      have g1 : sOf (phaseZ m ps Z) f k = sOf Z f k ∧ wOf (phaseZ m ps Z) f k = wOf Z f k := by
        rcases phase_get I hm hf k with ⟨a1, a2, q1, q2, q0, _⟩ | ⟨_, q1, q2⟩
        · rw [ha] at q0
          have q0 := better_some q0
          obtain ⟨v, hv, hl⟩ := I.tri m hm k hk l a2 b q2 hb
          have := h0 a1 v q1 hv
          rw [hs] at this
          obtain ⟨u, hu, hul⟩ := better_none this
          cases hu
          omega
        · exact ⟨q1, q2⟩
      have g2 : sOf (phaseZ m ps Z) k l = sOf Z k l ∧ wOf (phaseZ m ps Z) k l = wOf Z k l := by
        rcases phase_get I hm hkp l with ⟨b1, b2, q1, q2, q0, _⟩ | ⟨_, q1, q2⟩
        · rw [hb] at q0
          have q0 := better_some q0
          obtain ⟨v, hv, hl⟩ := I.tri f hf k hk m a b1 ha q1
          have := h0 v b2 hv q2
          rw [hs] at this
          obtain ⟨u, hu, hul⟩ := better_none this
          cases hu
          omega
        · exact ⟨q1, q2⟩
      refine ⟨List.mem_append_left _ hk, a, b, g1.1.trans ha, g2.1.trans hb, h1.trans hs, ?_, ?_⟩
      · rw [g1.2, wi_app fun k hk => inP hf hk, List.idxOf_append, if_pos hk]
        exact i1
      · rw [g2.2, wi_app fun k hk => inP hkp hk, List.idxOf_append, if_pos hk]
        exact i2
theorem SInv.row {ps : List Str} {Z : Str → SR × WR} (I : SInv ps [] Z) {r : TRow} (hl : r.2.1 ∈ ps) (hf0 : r.1 ∈ ps) (ha : 0 ≤ r.2.2.1) : SInv ps [] (rowZ Z r) := by
  obtain ⟨f0, l0, a0, t0⟩ := r
  have hl : l0 ∈ ps := hl
  have ha : 0 ≤ a0 := ha
  have key : ∀ f l, (f = f0 ∧ l = l0 ∧ better (sOf Z f l) a0 = true ∧ sOf (rowZ Z (f0, l0, a0, t0)) f l = some a0 ∧ wOf (rowZ Z (f0, l0, a0, t0)) f l = some (.inr t0)) ∨ (sOf (rowZ Z (f0, l0, a0, t0)) f l = sOf Z f l ∧ wOf (rowZ Z (f0, l0, a0, t0)) f l = wOf Z f l) := by
    intro f l
    unfold rowZ setR sOf wOf
    show (f = f0 ∧ l = l0 ∧ _ ∧ getR (if f = f0 then rowR l0 a0 t0 (Z f0) else Z f).1 l = _ ∧ getR (if f = f0 then rowR l0 a0 t0 (Z f0) else Z f).2 l = _) ∨ (getR (if f = f0 then rowR l0 a0 t0 (Z f0) else Z f).1 l = _ ∧ getR (if f = f0 then rowR l0 a0 t0 (Z f0) else Z f).2 l = _)
    by_cases e : f = f0
    · rw [if_pos e, e]
      unfold rowR
      by_cases b : better (getR (Z f0).1 l0) a0 = true
      · rw [if_pos b]
        by_cases z : l = l0
        · rw [z]
          exact .inl ⟨rfl, rfl, b, (getR_put ..).trans (if_pos rfl), (getR_put ..).trans (if_pos rfl)⟩
        · exact .inr ⟨(getR_put ..).trans (if_neg z), (getR_put ..).trans (if_neg z)⟩
      · rw [if_neg b]
        exact .inr ⟨rfl, rfl⟩
    · rw [if_neg e]
      exact .inr ⟨rfl, rfl⟩
  refine ⟨fun f hf => ?_, fun f hf l v h => ?_, fun f hf => ?_, fun f hf l w h => ?_, fun f hf k hk => absurd hk List.not_mem_nil, fun f hf l k h => ?_⟩
  · unfold rowZ setR
    show RowOk ps (if f = f0 then rowR l0 a0 t0 (Z f0) else Z f)
    split
    · unfold rowR
      split
      · exact (I.ok f0 hf0).put hl _ _
      · exact I.ok f0 hf0
    · exact I.ok f hf
  · rcases key f l with ⟨_, _, _, h1, _⟩ | ⟨h1, _⟩
    · rw [h1] at h
      cases h
      exact ha
    · rw [h1] at h
      exact I.nn f hf l v h
  · rcases key f f with ⟨_, _, b, h1, _⟩ | ⟨h1, _⟩
    · rw [I.dg f hf] at b
      have := better_some b
      omega
    · exact h1.trans (I.dg f hf)
  · rcases key f l with ⟨_, _, _, h1, _⟩ | ⟨h1, h2⟩
    · rw [h1]; rfl
    · rw [h1]
      rw [h2] at h
      exact I.ws f hf l w h
  · rcases key f l with ⟨_, _, _, _, h2⟩ | ⟨h1, h2⟩
    · rw [h2] at h
      cases h
    · rw [h2] at h
      exact absurd (I.mid f hf l k h).1 List.not_mem_nil
theorem begin_inv (ps : List Str) : SInv ps [] beginZ := by
  have e1 : ∀ f l, sOf beginZ f l = if f = l then some 0 else none := fun f l => rfl
  refine ⟨fun f hf => ⟨by simp [beginZ], fun j hj => ?_, List.nodup_nil, fun j hj => absurd hj List.not_mem_nil⟩, fun f hf l v h => ?_, fun f hf => ?_, fun f hf l w h => (nomatch h), fun f hf k hk => absurd hk List.not_mem_nil, fun f hf l k h => (nomatch h)⟩
  · have hj : j ∈ [f] := hj
    rw [List.mem_singleton.mp hj]
    exact hf
  · rw [e1] at h
    split at h
    · cases h; decide
    · cases h
  · rw [e1, if_pos rfl]
theorem rows_inv {ps : List Str} : ∀ {rs : List TRow} {Z : Str → SR × WR}, SInv ps [] Z → (∀ r ∈ rs, r.1 ∈ ps ∧ r.2.1 ∈ ps ∧ 0 ≤ r.2.2.1) → SInv ps [] (rs.foldl rowZ Z)
  | [], _, I, _ => I
  | r :: rs, _, I, h => rows_inv (rs := rs) (I.row (h r (List.mem_cons_self ..)).2.1 (h r (List.mem_cons_self ..)).1 (h r (List.mem_cons_self ..)).2.2) (fun x hx => h x (List.mem_cons_of_mem _ hx))
theorem close_step {ps : List Str} {n : Nat} {Z : Str → SR × WR} {m : Str} (h : ps[n]? = some m) : closeZ ps (n + 1) Z = phaseZ m ps (closeZ ps n Z) := by
  unfold closeZ
  rw [List.take_add_one, h, List.foldl_append]
  rfl
theorem close_inv {ps : List Str} (nd : ps.Nodup) {Z : Str → SR × WR} (I : SInv ps [] Z) : ∀ n, n ≤ ps.length → SInv ps (ps.take n) (closeZ ps n Z)
  | 0, _ => I
  | n + 1, h => by
    have hn : n < ps.length := h
    have e : ps[n]? = some ps[n] := List.getElem?_eq_getElem hn
    rw [close_step e, List.take_add_one, e]
    refine (close_inv nd I n (Nat.le_of_lt hn)).phase (List.getElem_mem hn) (fun z => ?_) (fun k hk => List.mem_of_mem_take hk)
    obtain ⟨j, hj, e⟩ := List.getElem_of_mem z
    rw [List.getElem_take] at e
    rw [List.length_take] at hj
    have := (List.getElem_inj (h₀ := by omega) (h₁ := hn) nd).mp e
    omega
end Pu

set_option Elab.async false
set_option linter.all false
set_option maxRecDepth 100000
/-! closed sums on the heap: a dict of dicts of sums, a dict of dicts of ways -/
namespace Pu
open PySem PySem.Spec PyProof.Rows L2
section
variable {β : Type}
def kvR (φ : β → V) (r : List (Str × β)) : List (Key × V) := r.map fun c => (.inr c.1, φ c.2)
theorem valV_kvR (φ : β → V) (r : List (Str × β)) (k : Str) : valV (kvR φ r) (.inr k) = (getR r k).map φ := by
  induction r with
  | nil => rfl
  | cons c r ih =>
    show valV ((.inr c.1, φ c.2) :: kvR φ r) (.inr k) = Option.map φ (if c.1 = k then some c.2 else getR r k)
    by_cases e : c.1 = k
    · rw [if_pos e, valV_pos (show (Sum.inr c.1 : Key) = .inr k by rw [e])]
      rfl
    · rw [if_neg e, valV_neg (fun z => e (Sum.inr.inj z))]
      exact ih
theorem putK_kvR (φ : β → V) {r : List (Str × β)} {k : Str} {v : β} (nd : (r.map (·.1)).Nodup) : putK (kvR φ r) (.inr k) (φ v) = kvR φ (putR r k v) := by
  induction r with
  | nil => rfl
  | cons c r ih =>
    rw [List.map_cons, List.nodup_cons] at nd
    have ih := ih nd.2
    unfold putK at ih ⊢
    show (if (decide ((Sum.inr c.1 : Key) = .inr k) || (kvR φ r).any fun kv => decide (kv.1 = .inr k)) = true then _ else _) = _
    by_cases e : c.1 = k
    · rw [decide_eq_true (show (Sum.inr c.1 : Key) = .inr k by rw [e]), Bool.true_or, if_pos rfl]
      show (if (Sum.inr c.1 : Key) = .inr k then (Sum.inr c.1, φ v) else (Sum.inr c.1, φ c.2)) :: List.map _ (kvR φ r) = kvR φ (if c.1 = k then (k, v) :: r else c :: putR r k v)
      rw [if_pos (show (Sum.inr c.1 : Key) = .inr k by rw [e]), if_pos e]
      show _ = ((Sum.inr k : Key), φ v) :: kvR φ r
      rw [e]
      congr 1
      refine (List.map_congr_left fun p hp => ?_).trans (List.map_id _)
      obtain ⟨q, hq, rfl⟩ := List.mem_map.mp hp
      refine if_neg fun z => nd.1 ?_
      have z : q.1 = k := Sum.inr.inj z
      rw [e, ← z]
      exact List.mem_map_of_mem (f := (·.1)) hq
    · rw [decide_eq_false (fun z : (Sum.inr c.1 : Key) = .inr k => e (Sum.inr.inj z)), Bool.false_or]
      show _ = kvR φ (if c.1 = k then (k, v) :: r else c :: putR r k v)
      rw [if_neg e]
      show _ = ((Sum.inr c.1 : Key), φ c.2) :: kvR φ (putR r k v)
      rw [← ih]
      by_cases a : ((kvR φ r).any fun kv => decide (kv.1 = .inr k)) = true
      · rw [if_pos a, if_pos a]
        show (if (Sum.inr c.1 : Key) = .inr k then (Sum.inr c.1, φ v) else (Sum.inr c.1, φ c.2)) :: List.map _ (kvR φ r) = _
        rw [if_neg (fun z : (Sum.inr c.1 : Key) = .inr k => e (Sum.inr.inj z))]
      · rw [if_neg a, if_neg a]
        rfl
theorem kvR_len (φ : β → V) (r : List (Str × β)) : (kvR φ r).length = r.length := List.length_map ..
end
def wayV : Str ⊕ Addr → V
  | .inl m => .str m
  | .inr t => .ref t
def outV (ps : List Str) (sa : Str → Addr) : List (Key × V) := ps.map fun f => (.inr f, .ref (sa f))
theorem outV_get {ps : List Str} {sa : Str → Addr} {f : Str} (h : f ∈ ps) : valV (outV ps sa) (.inr f) = some (.ref (sa f)) := by
  induction ps with
  | nil => cases h
  | cons p r ih =>
    show valV ((.inr p, .ref (sa p)) :: outV r sa) (.inr f) = _
    by_cases e : p = f
    · rw [valV_pos (show (Sum.inr p : Key) = .inr f by rw [e]), e]
    · rw [valV_neg (fun z => e (Sum.inr.inj z))]
      refine ih ?_
      rcases List.mem_cons.mp h with h | h
      · exact absurd h.symm e
      · exact h
theorem outV_none {ps : List Str} {sa : Str → Addr} {f : Str} (h : f ∉ ps) : valV (outV ps sa) (.inr f) = none := by
  induction ps with
  | nil => rfl
  | cons p r ih =>
    rw [List.mem_cons, not_or] at h
    show valV ((.inr p, .ref (sa p)) :: outV r sa) (.inr f) = _
    rw [valV_neg (fun z => h.1 (Sum.inr.inj z).symm)]
    exact ih h.2
/-- a dict of dicts on its way -/
def OutAt (H0 : Hp) (D : Addr) (ps : List Str) (o : Str → HO) (i : Nat) (H' : Hp) : Prop := Same H0 H' ∧ ∃ sa : Str → Addr, H' D = some (.dK (outV (ps.take i) sa)) ∧ (∀ f ∈ ps.take i, H' (sa f) = some (o f) ∧ H0 (sa f) = none ∧ sa f ≠ D) ∧ (∀ f ∈ ps.take i, ∀ g ∈ ps.take i, sa f = sa g → f = g)
theorem OutAt.begin {H0 : Hp} {D : Addr} {ps : List Str} {o : Str → HO} (h : H0 D = none) : OutAt H0 D ps o 0 (upd H0 D (.dK [])) :=
  ⟨same_upd h, fun _ => D, upd_same, fun _ h => absurd h List.not_mem_nil, fun _ h => absurd h List.not_mem_nil⟩
theorem OutAt.step {H0 H1 H2 : Hp} {D p : Addr} {ps : List Str} {o : Str → HO} {i : Nat} {f : Str} (h : OutAt H0 D ps o i H1) (hD : H0 D = none) (nd : ps.Nodup) (hf : ps[i]? = some f) (hp : H1 p = none) (s : Same H1 H2) (h2 : H2 p = some (o f)) :
    ∃ kvs, H2 D = some (.dK kvs) ∧ kvs.length ≤ i ∧ OutAt H0 D ps o (i + 1) (upd H2 D (.dK (putK kvs (.inr f) (.ref p)))) := by
  obtain ⟨s0, sa, hd, hr, hi⟩ := h
  have hlt : i < ps.length := (List.getElem?_eq_some_iff.mp hf).1
  have hn : f ∉ ps.take i := fun z => by
    obtain ⟨j, hj, e⟩ := List.getElem_of_mem z
    rw [List.getElem_take] at e
    rw [List.length_take] at hj
    have e2 := (List.getElem?_eq_some_iff.mp hf).2
    have := (List.getElem_inj (h₀ := by omega) (h₁ := hlt) nd).mp (e.trans e2.symm)
    omega
  have ht : ps.take (i + 1) = ps.take i ++ [f] := by rw [List.take_add_one, hf]; rfl
  have hpD : p ≠ D := fun e => by rw [e, hd] at hp; cases hp
  refine ⟨_, s _ _ hd, ?_, ?_⟩
  · unfold outV
    rw [List.length_map, List.length_take]
    exact Nat.min_le_left ..
  refine ⟨fun a u hu => ?_, fun g => if g = f then p else sa g, ?_, fun g hg => ?_, fun g hg k hk e => ?_⟩
  · rw [upd_ne (ne_of_none hu hD)]
    exact s _ _ (s0 _ _ hu)
  · rw [upd_same, putK_new _ (outV_none hn), ht]
    unfold outV
    rw [List.map_append]
    have e1 : (ps.take i).map (fun g => ((Sum.inr g : Key), V.ref (sa g))) = (ps.take i).map (fun g => ((Sum.inr g : Key), V.ref (if g = f then p else sa g))) := List.map_congr_left fun g hg => by
      rw [if_neg (fun z : g = f => hn (z ▸ hg))]
    rw [e1, List.map_cons, List.map_nil]
    dsimp only
    rw [if_pos rfl]
  · dsimp only
    by_cases e : g = f
    · rw [if_pos e, upd_ne hpD, e]
      refine ⟨h2, ?_, hpD⟩
      cases q : H0 p with
      | none => rfl
      | some u =>
        rw [s0 _ _ q] at hp
        cases hp
    · rw [if_neg e]
      rw [ht] at hg
      have hg : g ∈ ps.take i := (List.mem_append.mp hg).elim id fun z => absurd (List.mem_singleton.mp z) e
      obtain ⟨r1, r2, r3⟩ := hr g hg
      exact ⟨by rw [upd_ne r3]; exact s _ _ r1, r2, r3⟩
  · have key : ∀ g, g ∈ ps.take (i + 1) → g ≠ f → g ∈ ps.take i := fun g hg e => by
      rw [ht] at hg
      exact (List.mem_append.mp hg).elim id fun z => absurd (List.mem_singleton.mp z) e
    dsimp only at e
    by_cases e1 : g = f
    · by_cases e2 : k = f
      · exact e1.trans e2.symm
      · rw [if_pos e1, if_neg e2] at e
        rw [e, (hr k (key k hk e2)).1] at hp
        cases hp
    · by_cases e2 : k = f
      · rw [if_neg e1, if_pos e2] at e
        rw [← e, (hr g (key g hg e1)).1] at hp
        cases hp
      · rw [if_neg e1, if_neg e2] at e
        exact hi g (key g hg e1) k (key k hk e2) e
/-- the places where sums and ways stand -/
structure Apart (ps : List Str) (sd wd : Addr) (sa wa : Str → Addr) : Prop where
  s : ∀ f ∈ ps, ∀ g ∈ ps, sa f = sa g → f = g
  w : ∀ f ∈ ps, ∀ g ∈ ps, wa f = wa g → f = g
  sw : ∀ f ∈ ps, ∀ g ∈ ps, sa f ≠ wa g
  ss : ∀ f ∈ ps, sa f ≠ sd ∧ sa f ≠ wd
  ww : ∀ f ∈ ps, wa f ≠ sd ∧ wa f ≠ wd
structure ZAt (ps : List Str) (sd wd : Addr) (sa wa : Str → Addr) (H : Hp) (Z : Str → SR × WR) : Prop where
  ds : H sd = some (.dK (outV ps sa))
  dw : H wd = some (.dK (outV ps wa))
  s : ∀ f ∈ ps, H (sa f) = some (.dK (kvR V.int (Z f).1))
  w : ∀ f ∈ ps, H (wa f) = some (.dK (kvR wayV (Z f).2))
theorem ZAt.same {ps : List Str} {sd wd : Addr} {sa wa : Str → Addr} {H H' : Hp} {Z : Str → SR × WR} (h : ZAt ps sd wd sa wa H Z) (s : Same H H') : ZAt ps sd wd sa wa H' Z :=
  ⟨s _ _ h.ds, s _ _ h.dw, fun f hf => s _ _ (h.s f hf), fun f hf => s _ _ (h.w f hf)⟩
theorem ZAt.eq {ps : List Str} {sd wd : Addr} {sa wa : Str → Addr} {H : Hp} {Z Z' : Str → SR × WR} (h : ZAt ps sd wd sa wa H Z) (e : ∀ f ∈ ps, Z' f = Z f) : ZAt ps sd wd sa wa H Z' :=
  ⟨h.ds, h.dw, fun f hf => by rw [e f hf]; exact h.s f hf, fun f hf => by rw [e f hf]; exact h.w f hf⟩
/-- all but sums and ways stays -/
def Off (ps : List Str) (sa wa : Str → Addr) (H H' : Hp) : Prop := ∀ a u, (∀ f ∈ ps, a ≠ sa f) → (∀ f ∈ ps, a ≠ wa f) → H a = some u → H' a = some u
theorem Off.refl {ps : List Str} {sa wa : Str → Addr} {H : Hp} : Off ps sa wa H H := fun _ _ _ _ h => h
theorem Off.trans {ps : List Str} {sa wa : Str → Addr} {H H1 H2 : Hp} (e : Off ps sa wa H H1) (e2 : Off ps sa wa H1 H2) : Off ps sa wa H H2 := fun a u h1 h2 h => e2 a u h1 h2 (e a u h1 h2 h)
theorem Off.same {ps : List Str} {sa wa : Str → Addr} {H H' : Hp} (s : Same H H') : Off ps sa wa H H' := fun a u _ _ h => s a u h
/-- a sum and its way are put -/
theorem ZAt.put {ps : List Str} {sd wd : Addr} {sa wa : Str → Addr} {H : Hp} {Z : Str → SR × WR} (h : ZAt ps sd wd sa wa H Z) (A : Apart ps sd wd sa wa) {f l : Str} (hf : f ∈ ps) (ok : RowOk ps (Z f)) (v : Int) (w : Str ⊕ Addr) :
    (upd H (sa f) (.dK (putK (kvR V.int (Z f).1) (.inr l) (.int v)))) (wa f) = some (.dK (kvR wayV (Z f).2)) ∧ (upd H (sa f) (.dK (putK (kvR V.int (Z f).1) (.inr l) (.int v)))) wd = some (.dK (outV ps wa)) ∧
    ZAt ps sd wd sa wa (upd (upd H (sa f) (.dK (putK (kvR V.int (Z f).1) (.inr l) (.int v)))) (wa f) (.dK (putK (kvR wayV (Z f).2) (.inr l) (wayV w)))) (setR Z f (putR (Z f).1 l v, putR (Z f).2 l w)) ∧
    Off ps sa wa H (upd (upd H (sa f) (.dK (putK (kvR V.int (Z f).1) (.inr l) (.int v)))) (wa f) (.dK (putK (kvR wayV (Z f).2) (.inr l) (wayV w)))) := by
  refine ⟨by rw [upd_ne (A.sw f hf f hf).symm]; exact h.w f hf, by rw [upd_ne (A.ss f hf).2.symm]; exact h.dw, ⟨?_, ?_, fun g hg => ?_, fun g hg => ?_⟩, fun a u h1 h2 ha => ?_⟩
  · rw [upd_ne (A.ww f hf).1.symm, upd_ne (A.ss f hf).1.symm]; exact h.ds
  · rw [upd_ne (A.ww f hf).2.symm, upd_ne (A.ss f hf).2.symm]; exact h.dw
  · rw [upd_ne (A.sw g hg f hf)]
    unfold setR
    by_cases e : g = f
    · rw [if_pos e, e, upd_same, ← putK_kvR V.int ok.s1]
    · rw [if_neg e, upd_ne (fun z => e (A.s g hg f hf z))]
      exact h.s g hg
  · unfold setR
    by_cases e : g = f
    · rw [if_pos e, e, upd_same, ← putK_kvR wayV ok.w1]
    · rw [if_neg e, upd_ne (fun z => e (A.w g hg f hf z)), upd_ne (fun z => A.sw f hf g hg z.symm)]
      exact h.w g hg
  · rw [upd_ne (h2 f hf), upd_ne (h1 f hf)]
    exact ha
/-- what the pairs of a row are, as a list of tuples -/
def PairsAt (H : Hp) (ts : List Addr) (r : SR) : Prop := Paired (fun (t : Addr) (c : Str × Int) => H t = some (.tup [.str c.1, .int c.2])) ts r
theorem pairs_of {H : Hp} : ∀ {ts : List Addr} {r : SR}, Paired (fun (t : Addr) (q : Key × V) => H t = some (.tup [kV q.1, q.2])) ts (kvR V.int r) → PairsAt H ts r := by
  intro ts r h
  induction r generalizing ts with
  | nil => cases h; exact .nil
  | cons c r ih =>
    cases h with
    | cons a b => exact .cons a (ih b)
theorem PairsAt.len {H : Hp} {ts : List Addr} {r : SR} (h : PairsAt H ts r) : ts.length = r.length := Paired.length h
theorem PairsAt.get {H : Hp} {ts : List Addr} {r : SR} (h : PairsAt H ts r) : ∀ {i : Nat} {x : V}, (ts.map V.ref)[i]? = some x → ∃ t c, x = .ref t ∧ t ∈ ts ∧ r[i]? = some c ∧ H t = some (.tup [.str c.1, .int c.2]) := by
  unfold PairsAt at h
  induction h with
  | nil => intro i x e; simp at e
  | @cons a t as bs r _ ih =>
    intro i x e
    cases i with
    | zero =>
      have e : some (V.ref a) = some x := e
      cases e
      exact ⟨a, t, rfl, List.mem_cons_self .., rfl, r⟩
    | succ i =>
      obtain ⟨a', t', h1, h2, h3, h4⟩ := ih (i := i) (x := x) e
      exact ⟨a', t', h1, List.mem_cons_of_mem _ h2, h3, h4⟩
theorem PairsAt.keep {H H' : Hp} {ts : List Addr} {r : SR} (h : PairsAt H ts r) (k : ∀ t ∈ ts, ∀ u, H t = some u → H' t = some u) : PairsAt H' ts r := by
  unfold PairsAt at *
  induction h with
  | nil => exact .nil
  | @cons a t as bs r _ ih => exact .cons (k _ (List.mem_cons_self ..) _ r) (ih fun x hx => k x (List.mem_cons_of_mem _ hx))
/-- the rows handed in -/
def TRowV (r : TRow) : List V := [.str r.1, .str r.2.1, .int r.2.2.1, .ref r.2.2.2]
def TRowsAt (H : Hp) (as : List Addr) (rs : List TRow) : Prop := Paired (fun a r => H a = some (.tup (TRowV r))) as rs
theorem TRowsAt.get {H : Hp} {ts : List Addr} {r : List TRow} (h : TRowsAt H ts r) : ∀ {i : Nat} {x : V}, (ts.map V.ref)[i]? = some x → ∃ t c, x = .ref t ∧ r[i]? = some c ∧ H t = some (.tup (TRowV c)) := by
  unfold TRowsAt at h
  induction h with
  | nil => intro i x e; simp at e
  | @cons a t as bs r _ ih =>
    intro i x e
    cases i with
    | zero =>
      have e : some (V.ref a) = some x := e
      cases e
      exact ⟨a, t, rfl, rfl, r⟩
    | succ i =>
      obtain ⟨a', t', h1, h3, h4⟩ := ih (i := i) (x := x) e
      exact ⟨a', t', h1, h3, h4⟩
theorem TRowsAt.len {H : Hp} {ts : List Addr} {r : List TRow} (h : TRowsAt H ts r) : ts.length = r.length := Paired.length h
end Pu

set_option Elab.async false
set_option linter.all false
set_option maxRecDepth 100000
/-! one place in the middle, step by step -/
namespace Pu
open PySem PySem.Spec PyProof.Rows L2
theorem nodup_len {α : Type} [DecidableEq α] : ∀ {xs ys : List α}, xs.Nodup → (∀ x ∈ xs, x ∈ ys) → xs.length ≤ ys.length
  | [], _, _, _ => Nat.zero_le _
  | x :: xs, ys, nd, h => by
    rw [List.nodup_cons] at nd
    have hx := h x (List.mem_cons_self ..)
    have ih := nodup_len (xs := xs) (ys := ys.erase x) nd.2 fun y hy => (List.mem_erase_of_ne (fun z : y = x => nd.1 (by rw [← z]; exact hy))).mpr (h y (List.mem_cons_of_mem _ hy))
    rw [List.length_erase_of_mem hx] at ih
    have : 0 < ys.length := List.length_pos_of_mem hx
    rw [List.length_cons]
    omega
theorem RowOk.l1 {ps : List Str} {k : SR × WR} (h : RowOk ps k) : k.1.length ≤ ps.length := by
  rw [← List.length_map (f := (·.1)) (as := k.1)]
  exact nodup_len h.s1 h.s2
theorem RowOk.l2 {ps : List Str} {k : SR × WR} (h : RowOk ps k) : k.2.length ≤ ps.length := by
  rw [← List.length_map (f := (·.1)) (as := k.2)]
  exact nodup_len h.w1 h.w2
theorem RowOk.z1 {ps : List Str} {k : SR × WR} (h : RowOk ps k) (hl : ps.length ≤ 9) : (kvR V.int k.1).length < sizeLine := by
  rw [kvR_len]
  exact Nat.lt_of_lt_of_le (Nat.lt_succ_of_le (Nat.le_trans h.l1 hl)) (sz 10)
theorem RowOk.z2 {ps : List Str} {k : SR × WR} (h : RowOk ps k) (hl : ps.length ≤ 9) : (kvR wayV k.2).length < sizeLine := by
  rw [kvR_len]
  exact Nat.lt_of_lt_of_le (Nat.lt_succ_of_le (Nat.le_trans h.l2 hl)) (sz 10)
section
variable {ps : List Str} {sd wd : Addr} {sa wa : Str → Addr} {H : Hp} {Z : Str → SR × WR}
theorem ZAt.gs (h : ZAt ps sd wd sa wa H Z) {f : Str} (hf : f ∈ ps) : DGet H sd (.str f) (some (.ref (sa f))) := .inl ⟨outV ps sa, .inr f, .inl h.ds, rfl, (outV_get hf).symm⟩
theorem ZAt.gw (h : ZAt ps sd wd sa wa H Z) {f : Str} (hf : f ∈ ps) : DGet H wd (.str f) (some (.ref (wa f))) := .inl ⟨outV ps wa, .inr f, .inl h.dw, rfl, (outV_get hf).symm⟩
theorem ZAt.rs (h : ZAt ps sd wd sa wa H Z) {f : Str} (hf : f ∈ ps) (l : Str) : DGet H (sa f) (.str l) ((getR (Z f).1 l).map V.int) := .inl ⟨kvR V.int _, .inr l, .inl (h.s f hf), rfl, (valV_kvR ..).symm⟩
theorem ZAt.rw (h : ZAt ps sd wd sa wa H Z) {f : Str} (hf : f ∈ ps) (l : Str) : DGet H (wa f) (.str l) ((getR (Z f).2 l).map wayV) := .inl ⟨kvR wayV _, .inr l, .inl (h.w f hf), rfl, (valV_kvR ..).symm⟩
end
theorem take_not {ps : List Str} {j : Nat} {f : Str} (nd : ps.Nodup) (hf : ps[j]? = some f) : f ∉ ps.take j := fun z => by
  obtain ⟨i, hi, e⟩ := List.getElem_of_mem z
  rw [List.getElem_take] at e
  rw [List.length_take] at hi
  obtain ⟨hj, e2⟩ := List.getElem?_eq_some_iff.mp hf
  have := (List.getElem_inj (h₀ := by omega) (h₁ := hj) nd).mp (e.trans e2.symm)
  omega
theorem take_mem {ps : List Str} {j : Nat} {f : Str} (hf : ps[j]? = some f) (g : Str) : g ∈ ps.take (j + 1) ↔ g ∈ ps.take j ∨ g = f := by
  rw [List.take_add_one, hf, List.mem_append]
  show _ ∨ g ∈ [f] ↔ _
  rw [List.mem_singleton]
section
variable {ps : List Str} {j : Nat} {f m : Str} {Z : Str → SR × WR} {a : Int}
theorem phase_at (nd : ps.Nodup) (hf : ps[j]? = some f) : phaseZ m (ps.take j) Z f = Z f := by
  unfold phaseZ
  exact if_neg fun z => take_not nd hf z.1
theorem phase0 (g : Str) : phaseZ m (ps.take 0) Z g = Z g := by
  unfold phaseZ
  exact if_neg fun z => absurd z.1 List.not_mem_nil
theorem phase_skip (nd : ps.Nodup) (hf : ps[j]? = some f) (h : f = m ∨ getR (Z f).1 m = none) (g : Str) : phaseZ m (ps.take (j + 1)) Z g = phaseZ m (ps.take j) Z g := by
  by_cases e : g = f
  · rw [e, phase_at nd hf]
    unfold phaseZ
    rcases h with h | h
    · rw [if_neg (fun z => z.2 h)]
    · split
      · unfold phaseR
        rw [h]
      · rfl
  · unfold phaseZ
    by_cases z : g ∈ ps.take j ∧ g ≠ m
    · rw [if_pos z, if_pos ⟨(take_mem hf g).mpr (.inl z.1), z.2⟩]
    · rw [if_neg z, if_neg fun y => z ⟨((take_mem hf g).mp y.1).resolve_right e, y.2⟩]
theorem phase_one (nd : ps.Nodup) (hf : ps[j]? = some f) (hm : f ≠ m) (h : getR (Z f).1 m = some a) (g : Str) : phaseZ m (ps.take (j + 1)) Z g = setR (phaseZ m (ps.take j) Z) f (relaxR m a (Z m).1 (Z f)) g := by
  unfold setR
  by_cases e : g = f
  · rw [if_pos e, e]
    unfold phaseZ
    rw [if_pos ⟨(take_mem hf f).mpr (.inr rfl), hm⟩]
    unfold phaseR
    rw [h]
  · rw [if_neg e]
    unfold phaseZ
    by_cases z : g ∈ ps.take j ∧ g ≠ m
    · rw [if_pos z, if_pos ⟨(take_mem hf g).mpr (.inl z.1), z.2⟩]
    · rw [if_neg z, if_neg fun y => z ⟨((take_mem hf g).mp y.1).resolve_right e, y.2⟩]
theorem setR_self (g : Str) : setR Z f (Z f) g = Z g := by
  unfold setR
  split
  · rename_i e; rw [e]
  · rfl
theorem rowZ_no {r : TRow} (h : better (getR (Z r.1).1 r.2.1) r.2.2.1 = false) (g : Str) : rowZ Z r g = Z g := by
  unfold rowZ rowR
  rw [h, if_neg (by decide)]
  exact setR_self g
theorem rowZ_yes {r : TRow} (h : better (getR (Z r.1).1 r.2.1) r.2.2.1 = true) : rowZ Z r = setR Z r.1 (putR (Z r.1).1 r.2.1 r.2.2.1, putR (Z r.1).2 r.2.1 (.inr r.2.2.2)) := by
  unfold rowZ rowR
  rw [h, if_pos rfl]
end
/-- the sums that are gone through -/
def relaxT (m : Str) (a : Int) (bey : SR) (i : Nat) (k : SR × WR) : SR × WR := (bey.take i).foldl (oneR m a) k
theorem relaxT_all {m : Str} {a : Int} {bey : SR} {k : SR × WR} : relaxT m a bey bey.length k = relaxR m a bey k := by
  unfold relaxT
  rw [List.take_length]
  rfl
theorem relaxT_step {m : Str} {a : Int} {bey : SR} {i : Nat} {k : SR × WR} {c : Str × Int} (h : bey[i]? = some c) : relaxT m a bey (i + 1) k = oneR m a (relaxT m a bey i k) c := by
  unfold relaxT
  rw [List.take_add_one, h, List.foldl_append]
  rfl
theorem relaxT_ok {ps : List Str} {m : Str} {a : Int} {bey : SR} {i : Nat} {k : SR × WR} (ok : RowOk ps k) (hb : ∀ j ∈ bey.map (·.1), j ∈ ps) : RowOk ps (relaxT m a bey i k) :=
  RowOk.relax (bey := bey.take i) ok fun j hj => by
    obtain ⟨c, hc, e⟩ := List.mem_map.mp hj
    exact hb j (e ▸ List.mem_map_of_mem (f := (·.1)) (List.mem_of_mem_take hc))
theorem setR_at {Z : Str → SR × WR} {f : Str} {k : SR × WR} : setR Z f k f = k := if_pos rfl
theorem setR_setR {Z : Str → SR × WR} {f : Str} {k l : SR × WR} : setR (setR Z f k) f l = setR Z f l := by
  funext g
  unfold setR
  split
  · rfl
  · rfl
theorem ZAt.put2 {ps : List Str} {sd wd : Addr} {sa wa : Str → Addr} {H : Hp} {Z : Str → SR × WR} {f l : Str} {R : SR × WR} (h : ZAt ps sd wd sa wa H (setR Z f R)) (A : Apart ps sd wd sa wa) (hf : f ∈ ps) (ok : RowOk ps R) (v : Int) (w : Str ⊕ Addr) :
    (upd H (sa f) (.dK (putK (kvR V.int R.1) (.inr l) (.int v)))) (wa f) = some (.dK (kvR wayV R.2)) ∧ (upd H (sa f) (.dK (putK (kvR V.int R.1) (.inr l) (.int v)))) wd = some (.dK (outV ps wa)) ∧
    ZAt ps sd wd sa wa (upd (upd H (sa f) (.dK (putK (kvR V.int R.1) (.inr l) (.int v)))) (wa f) (.dK (putK (kvR wayV R.2) (.inr l) (wayV w)))) (setR Z f (putR R.1 l v, putR R.2 l w)) ∧
    Off ps sa wa H (upd (upd H (sa f) (.dK (putK (kvR V.int R.1) (.inr l) (.int v)))) (wa f) (.dK (putK (kvR wayV R.2) (.inr l) (wayV w)))) := by
  have := h.put A hf (by rw [setR_at]; exact ok) v w (l := l)
  rw [setR_at, setR_setR] at this
  exact this
theorem ZAt.s2 {ps : List Str} {sd wd : Addr} {sa wa : Str → Addr} {H : Hp} {Z : Str → SR × WR} {f : Str} {R : SR × WR} (h : ZAt ps sd wd sa wa H (setR Z f R)) (hf : f ∈ ps) : H (sa f) = some (.dK (kvR V.int R.1)) := by
  have := h.s f hf
  rw [setR_at] at this
  exact this
theorem oneR_yes {m : Str} {a : Int} {k : SR × WR} {c : Str × Int} (h : better (getR k.1 c.1) (a + c.2) = true) : oneR m a k c = (putR k.1 c.1 (a + c.2), putR k.2 c.1 (.inl m)) := by
  unfold oneR; rw [if_pos h]
theorem oneR_no {m : Str} {a : Int} {k : SR × WR} {c : Str × Int} (h : better (getR k.1 c.1) (a + c.2) = false) : oneR m a k c = k := by
  unfold oneR; rw [h, if_neg (by decide)]
end Pu

set_option Elab.async false
set_option linter.all false
set_option maxRecDepth 100000
/-! the rows between two places; a field as a target -/
namespace Pu
open PySem PySem.Spec PyProof.Rows L2
/-! ### o.f = v, as one of several targets -/
def gFld (K : PySem.W.Frag) (ta : TE) (f : Str) : TG := fun v σ H Q => ta σ H fun x H1 => ∃ a C dx fs, x = .ref a ∧ H1 a = some (.ins C dx fs) ∧ Cls K C ∧ NoAttr K C f ∧ fs.length < 1000 ∧ Q σ (upd H1 a (.ins C dx (putF f v fs)))
theorem pg_fld {X : Cx} {o : Expr} {f : Str} {pos : Pos} {ta : TE} (ha : PE X o ta) : PG X (.Attribute o f pos) (gFld X.K ta f) := by
  refine ⟨fun pins s σ H v u Q I r h => ?_⟩
  rw [assign_Attribute]
  refine wpAny_bind (wpAny_holding (thn (ha.run pins s σ H _ I h) fun ov s1 ⟨x, H1, I1, rx, a, C, dx, fs, ex, ea, c, n, l, q⟩ => ?_))
  subst ex
  obtain rfl : ov = Value.ref a := rx
  refine wpAny_bind (wpAny_standAt (wpAny_bind (wpAny_holding (setattr_ok I1 ea c n l r fun s2 I2 => ?_))))
  exact wpAny_release ⟨σ, _, I2, q⟩
/-! ### the rows that a sum is made of -/
def between (Z : Str → SR × WR) : Nat → Str → Str → List Addr
  | 0, _, _ => []
  | n + 1, f, l => match wOf Z f l with
    | none => []
    | some (.inr t) => [t]
    | some (.inl k) => between Z n f k ++ between Z n k l
theorem between_none {Z : Str → SR × WR} {n : Nat} {f l : Str} (h : wOf Z f l = none) : between Z (n + 1) f l = [] := by
  unfold between; rw [h]
theorem between_row {Z : Str → SR × WR} {n : Nat} {f l : Str} {t : Addr} (h : wOf Z f l = some (.inr t)) : between Z (n + 1) f l = [t] := by
  unfold between; rw [h]
theorem between_mid {Z : Str → SR × WR} {n : Nat} {f l k : Str} (h : wOf Z f l = some (.inl k)) : between Z (n + 1) f l = between Z n f k ++ between Z n k l := by
  rw [between, h]
theorem between_len (Z : Str → SR × WR) : ∀ (n : Nat) (f l : Str), (between Z n f l).length ≤ 2 ^ n
  | 0, f, l => Nat.zero_le _
  | n + 1, f, l => by
    have p : 0 < 2 ^ n := Nat.pow_pos (by decide)
    have e : 2 ^ (n + 1) = 2 ^ n + 2 ^ n := by rw [Nat.pow_succ]; omega
    cases h : wOf Z f l with
    | none => rw [between_none h]; exact Nat.zero_le _
    | some w =>
      cases w with
      | inr t => rw [between_row h]; show 1 ≤ _; omega
      | inl k =>
        rw [between_mid h, List.length_append]
        have := between_len Z n f k
        have := between_len Z n k l
        omega
theorem between_sz {Z : Str → SR × WR} {n : Nat} (h : n ≤ 12) (f l : Str) : (between Z n f l).length ≤ 4096 := Nat.le_trans (between_len Z n f l) (Nat.pow_le_pow_right (by decide) h)
theorem row_key (Z : Str → SR × WR) (r : TRow) (f l : Str) : (f = r.1 ∧ l = r.2.1 ∧ better (sOf Z f l) r.2.2.1 = true ∧ sOf (rowZ Z r) f l = some r.2.2.1 ∧ wOf (rowZ Z r) f l = some (.inr r.2.2.2)) ∨ (sOf (rowZ Z r) f l = sOf Z f l ∧ wOf (rowZ Z r) f l = wOf Z f l) := by
  obtain ⟨f0, l0, a0, t0⟩ := r
  unfold rowZ setR sOf wOf
  show (f = f0 ∧ l = l0 ∧ _ ∧ getR (if f = f0 then rowR l0 a0 t0 (Z f0) else Z f).1 l = _ ∧ getR (if f = f0 then rowR l0 a0 t0 (Z f0) else Z f).2 l = _) ∨ (getR (if f = f0 then rowR l0 a0 t0 (Z f0) else Z f).1 l = _ ∧ getR (if f = f0 then rowR l0 a0 t0 (Z f0) else Z f).2 l = _)
  by_cases e : f = f0
  · rw [if_pos e, e]
    unfold rowR
    by_cases b : better (getR (Z f0).1 l0) a0 = true
    · rw [if_pos b]
      by_cases z : l = l0
      · rw [z]
        exact .inl ⟨rfl, rfl, b, (getR_put ..).trans (if_pos rfl), (getR_put ..).trans (if_pos rfl)⟩
      · exact .inr ⟨(getR_put ..).trans (if_neg z), (getR_put ..).trans (if_neg z)⟩
    · rw [if_neg b]
      exact .inr ⟨rfl, rfl⟩
  · rw [if_neg e]
    exact .inr ⟨rfl, rfl⟩
/-- single rows that ways name are rows, and their numbers the sums -/
def WRows (ps : List Str) (rs : List TRow) (Z : Str → SR × WR) : Prop := ∀ f ∈ ps, ∀ l t, wOf Z f l = some (.inr t) → ∃ a, (f, l, a, t) ∈ rs ∧ sOf Z f l = some a
theorem WRows.row {ps : List Str} {rs : List TRow} {Z : Str → SR × WR} (h : WRows ps rs Z) {r : TRow} (hr : r ∈ rs) : WRows ps rs (rowZ Z r) := by
  intro f hf l t hw
  rcases row_key Z r f l with ⟨e1, e2, _, h1, h2⟩ | ⟨h1, h2⟩
  · rw [h2] at hw
    obtain ⟨f0, l0, a0, t0⟩ := r
    have e1 : f = f0 := e1
    have e2 : l = l0 := e2
    have hw : some (Sum.inr t0 : Str ⊕ Addr) = some (.inr t) := hw
    cases hw
    exact ⟨a0, by rw [e1, e2]; exact hr, h1⟩
  · rw [h2] at hw
    obtain ⟨a, q1, q2⟩ := h f hf l t hw
    exact ⟨a, q1, h1.trans q2⟩
theorem WRows.rows {ps : List Str} {rs : List TRow} : ∀ {ss : List TRow} {Z : Str → SR × WR}, WRows ps rs Z → (∀ r ∈ ss, r ∈ rs) → WRows ps rs (ss.foldl rowZ Z)
  | [], _, h, _ => h
  | r :: ss, _, h, hs => WRows.rows (ss := ss) (h.row (hs r (List.mem_cons_self ..))) fun x hx => hs x (List.mem_cons_of_mem _ hx)
theorem WRows.phase {ps P : List Str} {rs : List TRow} {Z : Str → SR × WR} (h : WRows ps rs Z) (I : SInv ps P Z) {m : Str} (hm : m ∈ ps) : WRows ps rs (phaseZ m ps Z) := by
  intro f hf l t hw
  rcases phase_get I hm hf l with ⟨a, b, _, _, _, _, h2⟩ | ⟨_, h1, h2⟩
  · rw [h2] at hw
    cases hw
  · rw [h2] at hw
    obtain ⟨a, q1, q2⟩ := h f hf l t hw
    exact ⟨a, q1, h1.trans q2⟩
theorem close_rows {ps : List Str} (nd : ps.Nodup) {rs : List TRow} {Z : Str → SR × WR} (I : SInv ps [] Z) (h : WRows ps rs Z) : ∀ n, n ≤ ps.length → WRows ps rs (closeZ ps n Z)
  | 0, _ => h
  | n + 1, hn => by
    have hn : n < ps.length := hn
    have e : ps[n]? = some ps[n] := List.getElem?_eq_getElem hn
    rw [close_step e]
    exact (close_rows nd I h n (Nat.le_of_lt hn)).phase (close_inv nd I n (Nat.le_of_lt hn)) (List.getElem_mem hn)
theorem begin_rows {ps : List Str} {rs : List TRow} : WRows ps rs beginZ := fun f _ l t h => (nomatch h)
/-- the closed sums of rows -/
abbrev allZ (ps : List Str) (rs : List TRow) : Str → SR × WR := closeZ ps ps.length (rowsZ rs)
theorem all_inv {ps : List Str} (nd : ps.Nodup) {rs : List TRow} (h : ∀ r ∈ rs, r.1 ∈ ps ∧ r.2.1 ∈ ps ∧ 0 ≤ r.2.2.1) : SInv ps ps (allZ ps rs) := by
  have := close_inv nd (rows_inv (begin_inv ps) h) ps.length (Nat.le_refl _)
  rw [List.take_length] at this
  exact this
theorem all_rows {ps : List Str} (nd : ps.Nodup) {rs : List TRow} (h : ∀ r ∈ rs, r.1 ∈ ps ∧ r.2.1 ∈ ps ∧ 0 ≤ r.2.2.1) : WRows ps rs (allZ ps rs) :=
  close_rows nd (rows_inv (begin_inv ps) h) (WRows.rows begin_rows fun _ hr => hr) ps.length (Nat.le_refl _)
/-! ### rows_between -/
def spBtw (n : Nat) : Sp := fun vs H Q _ => ∃ (wd : Addr) (wa : Str → Addr) (ps : List Str) (Z : Str → SR × WR) (f l : Str), vs = [.ref wd, .str f, .str l] ∧ H wd = some (.dK (outV ps wa)) ∧ (∀ g ∈ ps, H (wa g) = some (.dK (kvR wayV (Z g).2))) ∧ SInv ps ps Z ∧
  (∀ g ∈ ps, ∀ k t, wOf Z g k = some (.inr t) → ∃ xs, H t = some (.tup xs)) ∧ f ∈ ps ∧ n ≤ 12 ∧ wi ps (wOf Z f l) < n ∧ ∀ q H', Same H H' → H q = none → H' q = some (.lst ((between Z n f l).map V.ref)) → Q (.ref q) H'
/-! ### the least moment with a count -/
def leastOf (Z : Str → SR × WR) (e : Str) (n : Int) (g : Str) : Int := if n - (sOf Z g e).getD n > 0 then n - (sOf Z g e).getD n else 0
def leastR (Z : Str → SR × WR) (e : Str) (n : Int) (es : List Str) : SR := es.map fun g => (g, leastOf Z e n g)
theorem leastR_snoc {Z : Str → SR × WR} {e : Str} {n : Int} {es : List Str} {g : Str} (h : g ∉ es) : putK (kvR V.int (leastR Z e n es)) (.inr g) (.int (leastOf Z e n g)) = kvR V.int (leastR Z e n (es ++ [g])) := by
  rw [putK_new _ (by
    rw [valV_kvR, getR_none]
    · rfl
    · unfold leastR
      rw [List.map_map]
      intro z
      obtain ⟨x, hx, e⟩ := List.mem_map.mp z
      have e : x = g := e
      exact h (e ▸ hx))]
  unfold leastR kvR
  rw [List.map_append, List.map_append]
  rfl
theorem leastR_len {Z : Str → SR × WR} {e : Str} {n : Int} {es : List Str} : (kvR V.int (leastR Z e n es)).length = es.length := by
  unfold leastR
  rw [kvR_len, List.length_map]
theorem unlock_same {H H' : Hp} {q : Addr} {u v : HO} (hq : H q = some u) (s : Same (upd H q v) H') : Same H (upd H' q u) := fun b o hb => by
  by_cases e : b = q
  · rw [e] at hb ⊢
    rw [hq] at hb
    rw [← hb]
    exact upd_same
  · rw [upd_ne e]
    exact s b o (by rw [upd_ne e]; exact hb)
theorem getD_int (o : Option Int) (n : Int) : (o.map V.int).getD (.int n) = .int (o.getD n) := by cases o <;> rfl
def notN (g : Str) : Bool := decide (g ≠ ("" : Str))
theorem filt_yes {ps : List Str} {i : Nat} {g : Str} (h : ps[i]? = some g) (e : g ≠ ("" : Str)) : ((ps.take (i + 1)).filter notN) = ((ps.take i).filter notN) ++ [g] := by
  rw [List.take_add_one, h, List.filter_append]
  congr 1
  show List.filter _ [g] = [g]
  rw [List.filter_cons, if_pos (show notN g = true from decide_eq_true e)]
  rfl
theorem filt_no {ps : List Str} {i : Nat} {g : Str} (h : ps[i]? = some g) (e : g = ("" : Str)) : ((ps.take (i + 1)).filter notN) = ((ps.take i).filter notN) := by
  rw [List.take_add_one, h, List.filter_append]
  show _ ++ List.filter _ [g] = _
  rw [List.filter_cons, if_neg (by rw [e]; exact (by decide : ¬ notN ("" : Str) = true))]
  exact List.append_nil _
theorem filt_all {evs : List Str} (h : (("" : Str) :: evs).Nodup) : (((("" : Str) :: evs).filter notN)) = evs := by
  rw [List.filter_cons, if_neg (by decide)]
  refine List.filter_eq_self.mpr fun a ha => decide_eq_true fun e => ?_
  rw [List.nodup_cons] at h
  exact h.1 (e ▸ ha)
end Pu

set_option Elab.async false
set_option linter.all false
set_option maxRecDepth 100000
set_option maxHeartbeats 4000000
namespace Pk
open PySem PySem.Spec PyProof.Rows L2 Pu
abbrev s_close : Stmt := topS 5
theorem sc_close : FnScope ["places", "placed", "sums", "ways", "first", "last", "added", "row", "middle", "beyond", "known", "ahead", "more", "place"] ["places", "placed"] (defScope s_close) := ⟨rfl, rfl, rfl, by decide +kernel, rfl, by decide +kernel, by decide +kernel⟩

section
variable {P : Program} {w : World} {K : PySem.W.Frag} {mg : Str → Option Value} {base : Heap}
/-! ### closed sums -/
theorem dcK_it {J : It} {n : Nat} {G : Hp → Prop} {Y : Nat → Hp → V → Hp → Prop} (w : Walk J n G Y) {g : TG} {tt : TT} {tk tv : TE} {vs : List Nat} {σ : L2.St} {H1 : Hp} {D : Addr} {Qd : Hp → Prop} (Pv : Nat → Hp → Prop) (h0 : Pv 0 (upd H1 D (.dK []))) (hG : ∀ i H, i ≤ n → Pv i H → G H)
    (hs : ∀ i x H H', i < n → Pv i H → Y i H x H' → g x (wipe σ vs) H' fun σ2 H2 => wipe σ2 vs = wipe σ vs ∧ tt σ2 H2 fun b H3 =>
      if b = true then tk σ2 H3 fun y H4 => tv σ2 H4 fun z H5 => ∃ kvs k, y = kV k ∧ H5 D = some (.dK kvs) ∧ kvs.length < sizeLine ∧ Pv (i + 1) (upd H5 D (.dK (putK kvs k z))) else Pv (i + 1) H3) (hd : ∀ H, Pv n H → Qd H) :
    ∃ W : Nat → Nat → Hp → Prop, (∃ m, W 0 m (upd H1 D (.dK []))) ∧ ∀ i m H, W i m H →
      (J.stop i H ∧ Qd H) ∨ (J.go i H ∧ ∃ Nx : Hp → Prop, (∀ H', Nx H' → ∃ m', m' < m ∧ W (i + 1) m' H') ∧ ∀ x H', J.yld i H x H' → g x (wipe σ vs) H' fun σ2 H2 => wipe σ2 vs = wipe σ vs ∧ tt σ2 H2 fun b H3 =>
        if b = true then tk σ2 H3 fun y H4 => tv σ2 H4 fun z H5 => ∃ kvs k, y = kV k ∧ H5 D = some (.dK kvs) ∧ kvs.length < sizeLine ∧ Nx (upd H5 D (.dK (putK kvs k z))) else Nx H3) := by
  refine ⟨fun i m H => m = n - i ∧ i ≤ n ∧ Pv i H, ⟨n, by simp, Nat.zero_le _, h0⟩, ?_⟩
  rintro i m H ⟨rfl, hi, p⟩
  rcases Nat.lt_or_ge i n with hlt | hge
  · exact .inr ⟨w.goes i H hlt (hG i H hi p), Pv (i + 1), fun H' p' => ⟨n - (i + 1), by omega, rfl, hlt, p'⟩, fun x H' y => hs i x H H' hlt p (w.yields i H x H' hlt (hG i H hi p) y)⟩
  · have e : i = n := Nat.le_antisymm hi hge
    subst e
    exact .inl ⟨w.stops H (hG _ H hi p), hd H p⟩
def spClose : Sp := fun vs H Q _ => ∃ (p q : Addr) (ps : List Str) (as : List Addr) (rs : List TRow), vs = [.ref p, .ref q] ∧ H p = some (.lst (ps.map V.str)) ∧ H q = some (.lst (as.map V.ref)) ∧ TRowsAt H as rs ∧ ps.Nodup ∧ ps.length ≤ 9 ∧ rs.length ≤ 100 ∧ (∀ r ∈ rs, r.1 ∈ ps ∧ r.2.1 ∈ ps ∧ 0 ≤ r.2.2.1) ∧
  ∀ t sd wd sa wa H', Same H H' → H t = none → H' t = some (.tup [.ref sd, .ref wd]) → ZAt ps sd wd sa wa H' (closeZ ps ps.length (rowsZ rs)) → Q (.ref t) H'
theorem ok_close {f : Addr} {fd : FuncData} (F : Fun K "close" "close" s_close f fd) (T : Txt mg) : FnOk P w K mg base CX0 1 f fd ["places", "placed"] (spClose) := by
  have nd := sc_close.nd
  refine F.ok sc_close (fun vs H Q E h => ?_) (fun cdv A outer s H vs Q E hr h => ?_)
  · obtain ⟨_, _, _, _, _, rfl, _⟩ := h
    rfl
  · obtain ⟨p, q, ps, as, rs, rfl, hp, hq, hR, hnd, hl9, hrl, hrs, qq⟩ := h
    have hu := hu_of hr
    refine ⟨_, (pss_cons (ps_setDc (i := 2) (y := "sums") (own := [("place", 13)]) (g := gName 13) (tt := tYes) rfl nd rfl rfl (sw_dict rfl rfl rfl (by decide +kernel)) (pi_list (pv 0)) (blkOk_by (N := ["places", "placed", "sums", "ways", "first", "last", "added", "row", "middle", "beyond", "known", "ahead", "more", "place"]) (sc := defScope s_close) (by decide +kernel)) (fun _ _ _ _ _ => pg_name (i := 13) nd rfl (Or.inl rfl)) (fun _ _ _ _ _ => pts_nil) (fun _ _ _ _ _ => (pv 13)) (fun _ _ _ _ _ => (pe_disp (pps_cons (pv 13) pe_int pps_nil) (by rfl) (by rfl) (by simp) (by decide))))
      (pss_cons (ps_setDc (i := 3) (y := "ways") (own := [("place", 13)]) (g := gName 13) (tt := tYes) rfl nd rfl rfl (sw_dict rfl rfl rfl (by decide +kernel)) (pi_list (pv 0)) (blkOk_by (N := ["places", "placed", "sums", "ways", "first", "last", "added", "row", "middle", "beyond", "known", "ahead", "more", "place"]) (sc := defScope s_close) (by decide +kernel)) (fun _ _ _ _ _ => pg_name (i := 13) nd rfl (Or.inl rfl)) (fun _ _ _ _ _ => pts_nil) (fun _ _ _ _ _ => (pv 13)) (fun _ _ _ _ _ => pe_dnewK))
      (pss_cons (ps_for PassesOwn.never rfl (pi_list (pv 1)) (pg_tup rfl (pgs_cons (pg_name (i := 4) nd rfl (Or.inl rfl)) (pgs_cons (pg_name (i := 5) nd rfl (Or.inl rfl)) (pgs_cons (pg_name (i := 6) nd rfl (Or.inl rfl)) (pgs_cons (pg_name (i := 7) nd rfl (Or.inl rfl)) pgs_nil)))))
      (pss_one (ps_if (PW.pt (pw_or (pt_cmp (pc_dnotin hu (pv 5) (pe_dget hu (pv 2) (pv 4) (fun _ _ => rfl))) (by rfl)) (pw_or1 (pt_cmpR op_lt (pv 6) (pe_dget hu (pe_dget hu (pv 2) (pv 4) (fun _ _ => rfl)) (pv 5) (fun _ _ => rfl)) (by rfl)))))
      (pss_cons (ps_dput hu (pe_dget hu (pv 2) (pv 4) (fun _ _ => rfl)) (pv 5) (pv 6) rfl)
      (pss_one (ps_dput hu (pe_dget hu (pv 3) (pv 4) (fun _ _ => rfl)) (pv 5) (pv 7) rfl))) pss_nil)))
      (pss_cons (ps_for PassesOwn.never rfl (pi_list (pv 0)) (pg_name (i := 8) nd rfl (Or.inl rfl))
      (pss_cons (ps_set (i := 9) nd rfl (Or.inl rfl) (LiI.pe_listItems rfl (pe_dget hu (pv 2) (pv 8) (fun _ _ => rfl)) (by rfl) T.m_list PyProof.Rows.boot_list))
      (pss_one (ps_for PassesOwn.never rfl (pi_list (pv 0)) (pg_name (i := 4) nd rfl (Or.inl rfl))
      (pss_cons (ps_set (i := 10) nd rfl (Or.inl rfl) (pe_dget hu (pv 2) (pv 4) (fun _ _ => rfl)))
      (pss_cons (ps_if (PW.pt (pw_or (pt_cmpR op_eq (pv 4) (pv 8) (by rfl)) (pw_or1 (pt_cmp (pc_dnotin hu (pv 8) (pv 10)) (by rfl)))))
      (pss_one ps_continue) pss_nil)
      (pss_cons (ps_set (i := 11) nd rfl (Or.inl rfl) (pe_dget hu (pv 10) (pv 8) (fun _ _ => rfl)))
      (pss_one (ps_for PassesOwn.never rfl (pi_list (pv 9)) (pg_tup rfl (pgs_cons (pg_name (i := 5) nd rfl (Or.inl rfl)) (pgs_cons (pg_name (i := 12) nd rfl (Or.inl rfl)) pgs_nil)))
      (pss_one (ps_if (PW.pt (pw_or (pt_cmp (pc_dnotin hu (pv 5) (pv 10)) (by rfl)) (pw_or1 (pt_cmpR op_lt (pe_op oAdd (pv 11) (pv 12)) (pe_dget hu (pv 10) (pv 5) (fun _ _ => rfl)) (by rfl)))))
      (pss_cons (ps_dput hu (pv 10) (pv 5) (pe_op oAdd (pv 11) (pv 12)) rfl)
      (pss_one (ps_dput hu (pe_dget hu (pv 3) (pv 4) (fun _ _ => rfl)) (pv 5) (pv 8) rfl))) pss_nil)))))))))))
      (pss_one (ps_ret (pe_tup (pa_cons (pv 2) (pa_cons (pv 3) pa_nil))))))))), ?_⟩
    have hgs : ∀ {i : Nat} {x : V}, (ps.map V.str)[i]? = some x → ∃ f, ps[i]? = some f ∧ x = .str f := fun h => strs_get h
    refine seq_asg ?_
    refine ⟨_, rfl, p, rfl, ⟨_, .inl (.inl hp)⟩, fun D hD => ?_⟩
    refine dcK_it (walk_list (K := K) (a := p) (xs := ps.map V.str)) (fun i H' => OutAt H D ps (fun f => .dK (kvR V.int [(f, 0)])) i H') (OutAt.begin hD) (fun i H' _ pv => .inl (.inl (pv.1 _ _ hp))) (fun i x H4 H5 hi pv yv => ?_) (fun H4 pv => ?_)
    · obtain ⟨rfl, hx⟩ := yv
      obtain ⟨f, hf, rfl⟩ := hgs hx
      refine ⟨rfl, _, rfl, fun p2 hp2 => ⟨_, rfl, upd_same, [(.inr f, .int 0)], rfl, by show 1 ≤ 15; decide, ?_⟩⟩
      have s2 : Same H5 (upd (upd H5 p2 (.dK [])) p2 (.dK (mergeK [] [(.inr f, .int 0)]))) := fun a u hu => by
        rw [upd_ne (ne_of_none hu hp2), upd_ne (ne_of_none hu hp2)]
        exact hu
      obtain ⟨kvs, hk, hkl, hn⟩ := pv.step hD hnd hf hp2 s2 upd_same
      exact ⟨kvs, .inr f, rfl, hk, Nat.lt_of_le_of_lt hkl (Nat.lt_of_lt_of_le (by rw [List.length_map] at hi; omega) (sz 1000)), hn⟩
    rw [List.length_map] at pv
    obtain ⟨s04, sa, hsd, hsr, hsi⟩ := pv
    rw [List.take_length] at hsd hsr hsi
    refine gname (seq_asg ?_)
    refine ⟨_, rfl, p, rfl, ⟨_, .inl (.inl (s04 _ _ hp))⟩, fun D2 hD2 => ?_⟩
    refine dcK_it (walk_list (K := K) (a := p) (xs := ps.map V.str)) (fun i H' => OutAt H4 D2 ps (fun f => .dK (kvR wayV [])) i H') (OutAt.begin hD2) (fun i H' _ pv => .inl (.inl (pv.1 _ _ (s04 _ _ hp)))) (fun i x H5 H6 hi pv yv => ?_) (fun H5 pv => ?_)
    · obtain ⟨rfl, hx⟩ := yv
      obtain ⟨f, hf, rfl⟩ := hgs hx
      refine ⟨rfl, _, rfl, fun p2 hp2 => ?_⟩
      obtain ⟨kvs, hk, hkl, hn⟩ := pv.step hD2 hnd hf hp2 (same_upd hp2) upd_same
      exact ⟨kvs, .inr f, rfl, hk, Nat.lt_of_le_of_lt hkl (Nat.lt_of_lt_of_le (by rw [List.length_map] at hi; omega) (sz 1000)), hn⟩
    rw [List.length_map] at pv
    obtain ⟨s45, wa, hwd, hwr, hwi⟩ := pv
    rw [List.take_length] at hwd hwr hwi
    -- all apart
    have A : Apart ps D D2 sa wa := by
      refine ⟨hsi, hwi, fun f hf g hg e => ?_, fun f hf => ⟨(hsr f hf).2.2, fun e => ?_⟩, fun f hf => ⟨fun e => ?_, (hwr f hf).2.2⟩⟩
      · have := (hwr g hg).2.1
        rw [← e, (hsr f hf).1] at this
        cases this
      · have := (hsr f hf).1
        rw [e, hD2] at this
        cases this
      · have := (hwr f hf).2.1
        rw [e, hsd] at this
        cases this
    have Z0 : ZAt ps D D2 sa wa H5 beginZ := ⟨s45 _ _ hsd, hwd, fun f hf => s45 _ _ (hsr f hf).1, fun f hf => (hwr f hf).1⟩
    have s05 := Same.trans s04 s45
    have nf : ∀ f ∈ ps, H (sa f) = none ∧ H (wa f) = none := fun f hf => ⟨(hsr f hf).2.1, s04.free (hwr f hf).2.1⟩
    have off : ∀ {H'}, Off ps sa wa H5 H' → Same H H' := fun o a u hu => o a u (fun f hf e => by rw [e, (nf f hf).1] at hu; cases hu) (fun f hf e => by rw [e, (nf f hf).2] at hu; cases hu) (s05 _ _ hu)
    clear hsd hsr hsi hwd hwr hwi s45 s04 hD2
    refine gname (seq_st ?_)
    refine ⟨_, rfl, q, rfl, ⟨_, .inl (.inl (s05 _ _ hq))⟩, ?_⟩
    refine for_it (walk_list (K := K) (a := q) (xs := as.map V.ref)) (fun i σ H' => Off ps sa wa H5 H' ∧ ZAt ps D D2 sa wa H' ((rs.take i).foldl rowZ beginZ) ∧ ∃ v4 v5 v6 v7, σ = [some (.ref p), some (.ref q), some (.ref D), some (.ref D2), v4, v5, v6, v7, none, none, none, none, none, none]) ⟨Off.refl, Z0, _, _, _, _, rfl⟩
      (fun i σ H' _ pv => .inl (.inl (off pv.1 _ _ hq))) (fun i x σ H6 H7 hi pv yv => ?_) (fun σ H6 pv => ?_)
    · obtain ⟨rfl, hx⟩ := yv
      obtain ⟨o6, Z6, v4, v5, v6, v7, rfl⟩ := pv
      obtain ⟨ct, c, rfl, hc, hcell⟩ := hR.get hx
      obtain ⟨f, l, a, rt⟩ := c
      have hcm := List.mem_of_getElem? hc
      obtain ⟨hf, hl, ha⟩ := hrs _ hcm
      have hf : f ∈ ps := hf
      have hl : l ∈ ps := hl
      have hI : SInv ps [] ((rs.take i).foldl rowZ beginZ) := rows_inv (begin_inv ps) fun r hr => hrs r (List.mem_of_mem_take hr)
      have hnext : (rs.take (i + 1)).foldl rowZ beginZ = rowZ ((rs.take i).foldl rowZ beginZ) (f, l, a, rt) := by
        rw [List.take_add_one, hc, List.foldl_append]
        rfl
      have hcell6 := off o6 _ _ hcell
      revert hnext hI Z6
      generalize (rs.take i).foldl rowZ beginZ = Z
      intro Z6 hI hnext
      refine ⟨ct, _, rfl, .inl (.inl hcell6), rfl, _, _, rfl, _, _, rfl, _, _, rfl, _, _, rfl, rfl, ?_⟩
      have gs := Z6.gs hf
      have gr := Z6.rs hf l
      have okf := hI.ok f hf
      obtain ⟨q1, q2, q3, q4⟩ := Z6.put A hf okf a (.inr rt) (l := l)
      have gw : DGet _ D2 (.str f) (some (.ref (wa f))) := .inl ⟨outV ps wa, .inr f, .inl q2, rfl, (outV_get hf).symm⟩
      cases ho : getR (Z f).1 l with
      | none =>
        have hb : better (getR (Z f).1 l) a = true := by rw [ho]; rfl
        rw [ho] at gr
        refine ⟨_, rfl, _, rfl, _, rfl, D, _, rfl, gs, sa f, _, rfl, gr, _, rfl, ?_⟩
        refine ⟨_, rfl, _, rfl, _, rfl, D, _, rfl, gs, _, rfl, sa f, _, rfl, .inl ⟨_, .inr l, Z6.s f hf, rfl, okf.z1 hl9, rfl⟩, _, rfl, _, rfl, _, rfl, D2, _, rfl, gw, _, rfl, wa f, _, rfl, .inl ⟨_, .inr l, q1, rfl, okf.z2 hl9, rfl⟩, o6.trans q4, ?_, _, _, _, _, rfl⟩
        rw [hnext, rowZ_yes (r := (f, l, a, rt)) hb]
        exact q3
      | some u =>
        rw [ho] at gr
        refine ⟨_, rfl, _, rfl, _, rfl, D, _, rfl, gs, sa f, _, rfl, gr, _, rfl, ?_⟩
        refine ⟨_, rfl, _, rfl, _, rfl, D, _, rfl, gs, _, rfl, sa f, .int u, rfl, gr, _, _, rfl, rfl, _, rfl, ite2 (fun hlt => ?_) (fun hlt => ?_)⟩
        · have hb : better (getR (Z f).1 l) a = true := by rw [ho]; exact hlt
          refine ⟨_, rfl, _, rfl, _, rfl, D, _, rfl, gs, _, rfl, sa f, _, rfl, .inl ⟨_, .inr l, Z6.s f hf, rfl, okf.z1 hl9, rfl⟩, _, rfl, _, rfl, _, rfl, D2, _, rfl, gw, _, rfl, wa f, _, rfl, .inl ⟨_, .inr l, q1, rfl, okf.z2 hl9, rfl⟩, o6.trans q4, ?_, _, _, _, _, rfl⟩
          rw [hnext, rowZ_yes (r := (f, l, a, rt)) hb]
          exact q3
        · have hb : better (getR (Z f).1 l) a = false := by rw [ho]; exact Bool.eq_false_iff.mpr hlt
          refine ⟨o6, ?_, _, _, _, _, rfl⟩
          rw [hnext]
          exact Z6.eq fun g _ => rowZ_no (r := (f, l, a, rt)) hb g
    · rw [List.length_map, hR.len, List.take_length] at pv
      obtain ⟨o6, Z6, v4, v5, v6, v7, rfl⟩ := pv
      have I0 : SInv ps [] (rowsZ rs) := rows_inv (begin_inv ps) hrs
      refine seq_st ?_
      refine ⟨_, rfl, p, rfl, ⟨_, .inl (.inl (off o6 _ _ hp))⟩, ?_⟩
      refine for_it (walk_list (K := K) (a := p) (xs := ps.map V.str)) (fun i σ H' => Off ps sa wa H5 H' ∧ ZAt ps D D2 sa wa H' (closeZ ps i (rowsZ rs)) ∧ ∃ v4 v5 v6 v7 v8 v9 v10 v11 v12, σ = [some (.ref p), some (.ref q), some (.ref D), some (.ref D2), v4, v5, v6, v7, v8, v9, v10, v11, v12, none]) ⟨o6, Z6, _, _, _, _, _, _, _, _, _, rfl⟩
        (fun i σ H' _ pv => .inl (.inl (off pv.1 _ _ hp))) (fun i x σ H7' H7 hi pv yv => ?_) (fun σ H7 pv => ?_)
      · obtain ⟨rfl, hx⟩ := yv
        obtain ⟨m, hm, rfl⟩ := hgs hx
        obtain ⟨o7, Z7, v4, v5, v6, v7, v8, v9, v10, v11, v12, rfl⟩ := pv
        have hmp := List.mem_of_getElem? hm
        have hin := (List.getElem?_eq_some_iff.mp hm).1
        have I7 : SInv ps (ps.take i) (closeZ ps i (rowsZ rs)) := close_inv hnd I0 i (Nat.le_of_lt hin)
        have hnext : closeZ ps (i + 1) (rowsZ rs) = phaseZ m ps (closeZ ps i (rowsZ rs)) := close_step hm
        revert hnext I7 Z7
        generalize closeZ ps i (rowsZ rs) = Z
        intro Z7 I7 hnext
        have okm := I7.ok m hmp
        refine gname (seq_asg ?_)
        refine ⟨_, rfl, _, rfl, D, _, rfl, Z7.gs hmp, sa m, _, rfl, Z7.s m hmp, fun H8 bp ts s78 nbp nts bnt hb8 hpt => ?_⟩
        have hpr : PairsAt H8 ts (Z m).1 := pairs_of hpt
        clear hpt
        have n7 : ∀ {b : Addr}, H7 b = none → ∀ f ∈ ps, b ≠ sa f ∧ b ≠ wa f := fun hb f hf => ⟨fun e => (by rw [e, Z7.s f hf] at hb; cases hb), fun e => (by rw [e, Z7.w f hf] at hb; cases hb)⟩
        have Z8 := Z7.same s78
        have o8 : Off ps sa wa H5 H8 := Off.trans o7 (Off.same s78)
        refine gname ?_
        refine ⟨_, rfl, p, rfl, ⟨_, .inl (.inl (off o8 _ _ hp))⟩, ?_⟩
        refine for_it (walk_list (K := K) (a := p) (xs := ps.map V.str)) (fun j σ H' => Off ps sa wa H8 H' ∧ ZAt ps D D2 sa wa H' (phaseZ m (ps.take j) Z) ∧ ∃ v4 v5 v6 v7 v10 v11 v12, σ = [some (.ref p), some (.ref q), some (.ref D), some (.ref D2), v4, v5, v6, v7, some (.str m), some (.ref bp), v10, v11, v12, none]) ⟨Off.refl, Z8.eq fun g _ => phase0 g, _, _, _, _, _, _, _, rfl⟩
          (fun j σ H' _ pv => .inl (.inl (off (Off.trans o8 pv.1) _ _ hp))) (fun j x σ H9' H9 hj pv yv => ?_) (fun σ H9 pv => ?_)
        · obtain ⟨rfl, hx⟩ := yv
          obtain ⟨f, hf, rfl⟩ := hgs hx
          obtain ⟨o9, Z9, v4, v5, v6, v7, v10, v11, v12, rfl⟩ := pv
          have hfp := List.mem_of_getElem? hf
          have e9 : phaseZ m (ps.take j) Z f = Z f := phase_at hnd hf
          have gm := Z9.rs hfp m
          rw [e9] at gm
          refine gname (seq_asg ?_)
          refine ⟨_, rfl, _, rfl, D, _, rfl, Z9.gs hfp, ?_⟩
          refine gname (seq_st ?_)
          have skip : f = m ∨ getR (Z f).1 m = none → ZAt ps D D2 sa wa H9 (phaseZ m (ps.take (j + 1)) Z) := fun h => Z9.eq fun g _ => phase_skip hnd hf h g
          refine ⟨_, rfl, _, rfl, rfl, _, rfl, ite2 (fun e => ?_) (fun e => ?_)⟩
          · have e : f = m := V.str.inj (of_decide_eq_true e)
            exact ⟨o9, skip (.inl e), _, _, _, _, _, _, _, rfl⟩
          · have e : f ≠ m := fun z => e (decide_eq_true (by rw [z]))
            cases ha : getR (Z f).1 m with
            | none =>
              rw [ha] at gm
              exact ⟨_, rfl, _, rfl, sa f, _, rfl, gm, _, rfl, o9, skip (.inr ha), _, _, _, _, _, _, _, rfl⟩
            | some a =>
              rw [ha] at gm
              refine ⟨_, rfl, _, rfl, sa f, _, rfl, gm, _, rfl, ?_⟩
              refine ⟨_, rfl, _, rfl, sa f, _, rfl, gm, ?_⟩
              refine gname ?_
              have okf := I7.ok f hfp
              have hone := phase_one (Z := Z) hnd hf e ha
              revert hone e9 Z9
              generalize phaseZ m (ps.take j) Z = Zj
              intro Z9 e9 hone
              have k8 : ∀ {H'}, Off ps sa wa H8 H' → H' bp = some (.lst (ts.map V.ref)) ∧ PairsAt H' ts (Z m).1 := fun o => ⟨o _ _ (fun g hg => (n7 nbp g hg).1) (fun g hg => (n7 nbp g hg).2) hb8, hpr.keep fun t ht u hu => o _ _ (fun g hg => (n7 (nts t ht) g hg).1) (fun g hg => (n7 (nts t ht) g hg).2) hu⟩
              refine ⟨_, rfl, bp, rfl, ⟨_, .inl (.inl (k8 o9).1)⟩, ?_⟩
              refine for_it (walk_list (K := K) (a := bp) (xs := ts.map V.ref)) (fun k σ H' => Off ps sa wa H9 H' ∧ ZAt ps D D2 sa wa H' (setR Zj f (relaxT m a (Z m).1 k (Z f))) ∧ ∃ v5 v12, σ = [some (.ref p), some (.ref q), some (.ref D), some (.ref D2), some (.str f), v5, v6, v7, some (.str m), some (.ref bp), some (.ref (sa f)), some (.int a), v12, none]) ⟨Off.refl, Z9.eq fun g _ => ?_, _, _, rfl⟩
                (fun k σ H' _ pv => .inl (.inl (k8 (Off.trans o9 pv.1)).1)) (fun k x σ H10' H10 hk pv yv => ?_) (fun σ H10 pv => ?_)
              · rw [← e9]
                exact setR_self g
              · obtain ⟨rfl, hx⟩ := yv
                obtain ⟨o10, Z10, v5, v12, rfl⟩ := pv
                obtain ⟨ct, c, rfl, _, hc, hcell⟩ := (k8 (Off.trans o9 o10)).2.get hx
                obtain ⟨l, b⟩ := c
                have okR : RowOk ps (relaxT m a (Z m).1 k (Z f)) := relaxT_ok okf okm.s2
                have hstep := relaxT_step (m := m) (a := a) (k := Z f) hc
                revert hstep okR Z10
                generalize relaxT m a (Z m).1 k (Z f) = R
                intro Z10 okR hstep
                have gr := Z10.rs hfp l
                rw [setR_at] at gr
                have hl : l ∈ ps := okm.s2 l (List.mem_map_of_mem (f := (·.1)) (List.mem_of_getElem? hc))
                obtain ⟨q1, q2, q3, q4⟩ := Z10.put2 A hfp okR (a + b) (.inl m) (l := l)
                have gw : DGet _ D2 (.str f) (some (.ref (wa f))) := .inl ⟨outV ps wa, .inr f, .inl q2, rfl, (outV_get hfp).symm⟩
                refine ⟨ct, _, rfl, .inl (.inl hcell), rfl, _, _, rfl, _, _, rfl, rfl, ?_⟩
                have yes : better (getR R.1 l) (a + b) = true → ZAt ps D D2 sa wa _ (setR Zj f (relaxT m a (Z m).1 (k + 1) (Z f))) := fun hb => by
                  rw [hstep, oneR_yes (c := (l, b)) hb]
                  exact q3
                cases ho : getR R.1 l with
                | none =>
                  have hb : better (getR R.1 l) (a + b) = true := by rw [ho]; rfl
                  rw [ho] at gr
                  refine ⟨_, rfl, _, rfl, sa f, _, rfl, gr, _, rfl, ?_⟩
                  exact ⟨_, rfl, _, rfl, .inl ⟨_, _, rfl, rfl, _, rfl, _, rfl, sa f, _, rfl, .inl ⟨_, .inr l, Z10.s2 hfp, rfl, okR.z1 hl9, rfl⟩, _, rfl, _, rfl, _, rfl, D2, _, rfl, gw, _, rfl, wa f, _, rfl, .inl ⟨_, .inr l, q1, rfl, okR.z2 hl9, rfl⟩, Off.trans o10 q4, yes hb, _, _, rfl⟩⟩
                | some u =>
                  rw [ho] at gr
                  refine ⟨_, rfl, _, rfl, sa f, _, rfl, gr, _, rfl, ?_⟩
                  refine ⟨_, rfl, _, rfl, .inl ⟨_, _, rfl, rfl, _, rfl, _, rfl, sa f, .int u, rfl, gr, _, _, rfl, rfl, _, rfl, ite2 (fun hlt => ?_) (fun hlt => ?_)⟩⟩
                  · have hb : better (getR R.1 l) (a + b) = true := by rw [ho]; exact hlt
                    exact ⟨_, rfl, _, rfl, .inl ⟨_, _, rfl, rfl, _, rfl, _, rfl, sa f, _, rfl, .inl ⟨_, .inr l, Z10.s2 hfp, rfl, okR.z1 hl9, rfl⟩, _, rfl, _, rfl, _, rfl, D2, _, rfl, gw, _, rfl, wa f, _, rfl, .inl ⟨_, .inr l, q1, rfl, okR.z2 hl9, rfl⟩, Off.trans o10 q4, yes hb, _, _, rfl⟩⟩
                  · have hb : better (getR R.1 l) (a + b) = false := by rw [ho]; exact Bool.eq_false_iff.mpr hlt
                    refine ⟨o10, ?_, _, _, rfl⟩
                    rw [hstep, oneR_no (c := (l, b)) hb]
                    exact Z10
              · rw [List.length_map, (k8 o9).2.len, relaxT_all] at pv
                obtain ⟨o10, Z10, v5, v12, rfl⟩ := pv
                exact ⟨Off.trans o9 o10, Z10.eq fun g _ => hone g, _, _, _, _, _, _, _, rfl⟩
        · rw [List.length_map, List.take_length] at pv
          obtain ⟨o9, Z9, v4, v5, v6, v7, v10, v11, v12, rfl⟩ := pv
          refine ⟨Off.trans o8 o9, ?_, _, _, _, _, _, _, _, _, _, rfl⟩
          rw [hnext]
          exact Z9
      · rw [List.length_map] at pv
        obtain ⟨o7, Z7, v4, v5, v6, v7, v8, v9, v10, v11, v12, rfl⟩ := pv
        have s07 := off o7
        refine ⟨_, rfl, _, rfl, sz 2, fun t ht => ?_⟩
        have st : Same H7 (upd H7 t (.tup [.ref D, .ref D2])) := same_upd ht
        exact qq t D D2 sa wa _ (Same.trans s07 st) (s07.free ht) upd_same (Z7.same st)

end
end Pk

set_option Elab.async false
set_option linter.all false
set_option maxRecDepth 100000
/-! closed sums are the least sums of walks; so are sums that are found by going on along all rows, time after time -/
namespace Pu
open PySem PySem.Spec PyProof.Rows L2
/-- rows one behind another, and what they add up to -/
inductive Wk (R : Str → Str → Int → Prop) (f : Str) : Str → Int → Prop
  | nil : Wk R f f 0
  | snoc {k l : Str} {a b : Int} : Wk R f k a → R k l b → Wk R f l (a + b)
section
variable {R : Str → Str → Int → Prop}
theorem Wk.app {f k : Str} {a : Int} (h : Wk R f k a) : ∀ {l : Str} {b : Int}, Wk R k l b → Wk R f l (a + b) := by
  intro l b h2
  induction h2 with
  | nil => rw [Int.add_zero]; exact h
  | snoc _ r ih => rw [← Int.add_assoc]; exact ih.snoc r
theorem Wk.one {f l : Str} {a : Int} (h : R f l a) : Wk R f l a := by
  have := Wk.snoc (.nil (R := R) (f := f)) h
  rw [Int.zero_add] at this
  exact this
theorem Wk.nn (hR : ∀ f l a, R f l a → 0 ≤ a) {f l : Str} {w : Int} (h : Wk R f l w) : 0 ≤ w := by
  induction h with
  | nil => exact Int.le_refl _
  | snoc _ r ih => have := hR _ _ _ r; omega
theorem Wk.imp {R' : Str → Str → Int → Prop} (hR : ∀ f l a, R f l a → R' f l a) {f l : Str} {w : Int} (h : Wk R f l w) : Wk R' f l w := by
  induction h with
  | nil => exact .nil
  | snoc _ r ih => exact .snoc ih (hR _ _ _ r)
/-- the least sum -/
def Dist (R : Str → Str → Int → Prop) (f l : Str) (v : Int) : Prop := Wk R f l v ∧ ∀ w, Wk R f l w → v ≤ w
theorem Dist.uniq {f l : Str} {u v : Int} (h : Dist R f l u) (h' : Dist R f l v) : u = v := Int.le_antisymm (h.2 _ h'.1) (h'.2 _ h.1)
theorem Dist.imp {R' : Str → Str → Int → Prop} (h1 : ∀ f l a, R f l a → R' f l a) (h2 : ∀ f l a, R' f l a → R f l a) {f l : Str} {v : Int} (h : Dist R f l v) : Dist R' f l v := ⟨h.1.imp h1, fun w hw => h.2 w (hw.imp h2)⟩
end
/-! ### closed sums -/
def RowR (rs : List TRow) (f l : Str) (a : Int) : Prop := ∃ t, (f, l, a, t) ∈ rs
def SumW (R : Str → Str → Int → Prop) (ps : List Str) (Z : Str → SR × WR) : Prop := ∀ f ∈ ps, ∀ l v, sOf Z f l = some v → Wk R f l v
def SumB (ss : List TRow) (Z : Str → SR × WR) : Prop := ∀ r ∈ ss, ∃ v, sOf Z r.1 r.2.1 = some v ∧ v ≤ r.2.2.1
section
variable {R : Str → Str → Int → Prop} {ps P : List Str} {Z : Str → SR × WR}
theorem SumW.begin : SumW R ps beginZ := fun f _ l v h => by
  have h : (if f = l then some (0 : Int) else none) = some v := h
  split at h
  · rename_i e
    cases h
    rw [e]
    exact .nil
  · cases h
theorem SumW.row (h : SumW R ps Z) {r : TRow} (hr : R r.1 r.2.1 r.2.2.1) : SumW R ps (rowZ Z r) := fun f hf l v hv => by
  rcases row_key Z r f l with ⟨e1, e2, _, h1, _⟩ | ⟨h1, _⟩
  · rw [h1] at hv
    cases hv
    rw [e1, e2]
    exact .one hr
  · rw [h1] at hv
    exact h f hf l v hv
theorem SumW.phase (h : SumW R ps Z) (I : SInv ps P Z) {m : Str} (hm : m ∈ ps) : SumW R ps (phaseZ m ps Z) := fun f hf l v hv => by
  rcases phase_or I hm hf hv with hv | ⟨a, b, ha, hb, rfl⟩
  · exact h f hf l v hv
  · exact (h f hf m a ha).app (h m hm l b hb)
theorem SumB.row {ss : List TRow} (h : SumB ss Z) (r : TRow) : SumB (ss ++ [r]) (rowZ Z r) := fun x hx => by
  rcases List.mem_append.mp hx with hx | hx
  · obtain ⟨v, hv, hle⟩ := h x hx
    rcases row_key Z r x.1 x.2.1 with ⟨_, _, b, h1, _⟩ | ⟨h1, _⟩
    · rw [hv] at b
      have := better_some b
      exact ⟨_, h1, by omega⟩
    · exact ⟨v, h1.trans hv, hle⟩
  · rw [List.mem_singleton.mp hx]
    obtain ⟨f0, l0, a0, t0⟩ := r
    show ∃ v, sOf (rowZ Z (f0, l0, a0, t0)) f0 l0 = some v ∧ v ≤ a0
    by_cases b : better (getR (Z f0).1 l0) a0 = true
    · refine ⟨a0, ?_, Int.le_refl _⟩
      rw [rowZ_yes (r := (f0, l0, a0, t0)) b]
      unfold sOf
      show getR (setR Z f0 (putR (Z f0).1 l0 a0, putR (Z f0).2 l0 (.inr t0)) f0).1 l0 = _
      rw [setR_at]
      exact (getR_put ..).trans (if_pos rfl)
    · have b : better (getR (Z f0).1 l0) a0 = false := Bool.eq_false_iff.mpr b
      obtain ⟨u, hu, hle⟩ := better_none b
      refine ⟨u, ?_, hle⟩
      unfold sOf
      rw [rowZ_no (r := (f0, l0, a0, t0)) b f0]
      exact hu
theorem SumB.phase {ss : List TRow} (h : SumB ss Z) (I : SInv ps P Z) {m : Str} (hm : m ∈ ps) (hs : ∀ r ∈ ss, r.1 ∈ ps) : SumB ss (phaseZ m ps Z) := fun x hx => by
  obtain ⟨v, hv, hle⟩ := h x hx
  obtain ⟨u, hu, hl2⟩ := (phase_le I hm (hs x hx)).1 v hv
  exact ⟨u, hu, Int.le_trans hl2 hle⟩
end
theorem rows_sumB : ∀ {rs ss : List TRow} {Z : Str → SR × WR}, SumB ss Z → SumB (ss ++ rs) (rs.foldl rowZ Z)
  | [], ss, _, h => by rw [List.append_nil]; exact h
  | r :: rs, ss, Z, h => by
    have := rows_sumB (rs := rs) (h.row r)
    rw [List.append_assoc] at this
    exact this
theorem rows_sumW {R : Str → Str → Int → Prop} {ps : List Str} : ∀ {rs : List TRow} {Z : Str → SR × WR}, SumW R ps Z → (∀ r ∈ rs, R r.1 r.2.1 r.2.2.1) → SumW R ps (rs.foldl rowZ Z)
  | [], _, h, _ => h
  | r :: rs, _, h, hr => rows_sumW (rs := rs) (h.row (hr r (List.mem_cons_self ..))) fun x hx => hr x (List.mem_cons_of_mem _ hx)
theorem close_sums {R : Str → Str → Int → Prop} {ps : List Str} (nd : ps.Nodup) {rs : List TRow} {Z : Str → SR × WR} (I : SInv ps [] Z) (hs : ∀ r ∈ rs, r.1 ∈ ps) (hW : SumW R ps Z) (hB : SumB rs Z) : ∀ n, n ≤ ps.length → SumW R ps (closeZ ps n Z) ∧ SumB rs (closeZ ps n Z)
  | 0, _ => ⟨hW, hB⟩
  | n + 1, hn => by
    have hn : n < ps.length := hn
    have e : ps[n]? = some ps[n] := List.getElem?_eq_getElem hn
    obtain ⟨h1, h2⟩ := close_sums nd I hs hW hB n (Nat.le_of_lt hn)
    have J := close_inv nd I n (Nat.le_of_lt hn)
    rw [close_step e]
    exact ⟨h1.phase J (List.getElem_mem hn), h2.phase J (List.getElem_mem hn) hs⟩
theorem all_dist {ps : List Str} (nd : ps.Nodup) {rs : List TRow} (h : ∀ r ∈ rs, r.1 ∈ ps ∧ r.2.1 ∈ ps ∧ 0 ≤ r.2.2.1) {f : Str} (hf : f ∈ ps) (l : Str) (v : Int) : sOf (allZ ps rs) f l = some v ↔ Dist (RowR rs) f l v := by
  have I := all_inv nd h
  obtain ⟨hW, hB⟩ := close_sums (R := RowR rs) nd (rows_inv (begin_inv ps) h) (fun r hr => (h r hr).1) (rows_sumW SumW.begin fun r hr => ⟨r.2.2.2, hr⟩) (by
    have := rows_sumB (rs := rs) (ss := []) (Z := beginZ) (fun r hr => absurd hr List.not_mem_nil)
    exact this) ps.length (Nat.le_refl _)
  have key : ∀ {l : Str} {w : Int}, Wk (RowR rs) f l w → ∃ v, sOf (allZ ps rs) f l = some v ∧ v ≤ w := fun {l w} hw => by
    induction hw with
    | nil => exact ⟨0, I.dg f hf, Int.le_refl _⟩
    | @snoc k l a b hk r ih =>
      obtain ⟨u, hu, hle⟩ := ih
      obtain ⟨t, ht⟩ := r
      obtain ⟨u2, hu2, hle2⟩ := hB _ ht
      obtain ⟨v, hv, hl3⟩ := I.tri f hf k (mem_ps I hf hu) l u u2 hu hu2
      have hle2 : u2 ≤ b := hle2
      exact ⟨v, hv, by omega⟩
  constructor
  · intro hv
    refine ⟨hW f hf l v hv, fun w hw => ?_⟩
    obtain ⟨u, hu, hle⟩ := key hw
    have : u = v := Option.some.inj (hu.symm.trans hv)
    omega
  · intro hd
    obtain ⟨u, hu, hle⟩ := key hd.1
    have := hd.2 u (hW f hf l u hu)
    rw [hu]
    exact congrArg some (by omega)
end Pu

set_option Elab.async false
set_option linter.all false
set_option maxRecDepth 100000
/-! going on along all rows, time after time, finds the least sums -/
namespace Pu
open PySem PySem.Spec PyProof.Rows L2
abbrev LRow := Str × Str × Int
def bfStep (k : SR) (r : LRow) : SR := match getR k r.1 with
  | none => k
  | some a => if better (getR k r.2.1) (a + r.2.2) then putR k r.2.1 (a + r.2.2) else k
def bfTurn (rs : List LRow) (k : SR) : SR := rs.foldl bfStep k
def bfN (rs : List LRow) : Nat → SR → SR
  | 0, k => k
  | n + 1, k => bfTurn rs (bfN rs n k)
def bfT (rs : List LRow) (i : Nat) (k : SR) : SR := (rs.take i).foldl bfStep k
theorem bfT_all {rs : List LRow} {k : SR} : bfT rs rs.length k = bfTurn rs k := by
  unfold bfT
  rw [List.take_length]
  rfl
theorem bfT_step {rs : List LRow} {i : Nat} {k : SR} {r : LRow} (h : rs[i]? = some r) : bfT rs (i + 1) k = bfStep (bfT rs i k) r := by
  unfold bfT
  rw [List.take_add_one, h, List.foldl_append]
  rfl
def LowR (k k' : SR) : Prop := ∀ l u, getR k l = some u → ∃ v, getR k' l = some v ∧ v ≤ u
theorem LowR.refl (k : SR) : LowR k k := fun l u h => ⟨u, h, Int.le_refl _⟩
theorem LowR.trans {a b c : SR} (h1 : LowR a b) (h2 : LowR b c) : LowR a c := fun l u h => by
  obtain ⟨v, hv, hl⟩ := h1 l u h
  obtain ⟨x, hx, hl2⟩ := h2 l v hv
  exact ⟨x, hx, Int.le_trans hl2 hl⟩
theorem bfStep_get (k : SR) (r : LRow) (l : Str) : (∃ a, getR k r.1 = some a ∧ l = r.2.1 ∧ better (getR k l) (a + r.2.2) = true ∧ getR (bfStep k r) l = some (a + r.2.2)) ∨ getR (bfStep k r) l = getR k l := by
  unfold bfStep
  cases h : getR k r.1 with
  | none => exact .inr rfl
  | some a =>
    dsimp only
    by_cases b : better (getR k r.2.1) (a + r.2.2) = true
    · rw [if_pos b]
      by_cases e : l = r.2.1
      · refine .inl ⟨a, rfl, e, by rw [e]; exact b, ?_⟩
        rw [getR_put, if_pos e]
      · refine .inr ?_
        rw [getR_put, if_neg e]
    · rw [if_neg b]
      exact .inr rfl
theorem bfStep_low (k : SR) (r : LRow) : LowR k (bfStep k r) := fun l u h => by
  rcases bfStep_get k r l with ⟨a, _, _, b, h1⟩ | h1
  · rw [h] at b
    have := better_some b
    exact ⟨_, h1, by omega⟩
  · exact ⟨u, h1.trans h, Int.le_refl _⟩
theorem bfStep_hit {k : SR} {r : LRow} {a : Int} (h : getR k r.1 = some a) : ∃ v, getR (bfStep k r) r.2.1 = some v ∧ v ≤ a + r.2.2 := by
  unfold bfStep
  rw [h]
  dsimp only
  by_cases b : better (getR k r.2.1) (a + r.2.2) = true
  · rw [if_pos b]
    exact ⟨_, (getR_put ..).trans (if_pos rfl), Int.le_refl _⟩
  · rw [if_neg b]
    obtain ⟨u, hu, hl⟩ := better_none (Bool.eq_false_iff.mpr b)
    exact ⟨u, hu, hl⟩
theorem bfTurn_low : ∀ (rs : List LRow) (k : SR), LowR k (bfTurn rs k)
  | [], k => LowR.refl k
  | r :: rs, k => (bfStep_low k r).trans (bfTurn_low rs (bfStep k r))
theorem bfTurn_hit : ∀ {rs : List LRow} {k : SR} {r : LRow} {a : Int}, r ∈ rs → getR k r.1 = some a → ∃ v, getR (bfTurn rs k) r.2.1 = some v ∧ v ≤ a + r.2.2
  | x :: rs, k, r, a, hr, h => by
    rcases List.mem_cons.mp hr with e | hr
    · obtain ⟨v, hv, hl⟩ := bfStep_hit h
      rw [e] at hv
      obtain ⟨u, hu, hl2⟩ := bfTurn_low rs (bfStep k x) _ _ hv
      rw [e]
      rw [e] at hl
      exact ⟨u, hu, Int.le_trans hl2 hl⟩
    · obtain ⟨v, hv, hl⟩ := bfStep_low k x _ _ h
      obtain ⟨u, hu, hl2⟩ := bfTurn_hit (rs := rs) (k := bfStep k x) hr hv
      exact ⟨u, hu, by omega⟩
def SndV (R : Str → Str → Int → Prop) (f : Str) (k : SR) : Prop := ∀ l v, getR k l = some v → Wk R f l v
theorem SndV.turn {R : Str → Str → Int → Prop} {f : Str} : ∀ {rs : List LRow} {k : SR}, SndV R f k → (∀ r ∈ rs, R r.1 r.2.1 r.2.2) → SndV R f (bfTurn rs k)
  | [], _, h, _ => h
  | r :: rs, k, h, hr => by
    refine SndV.turn (rs := rs) (k := bfStep k r) (fun l v hv => ?_) fun x hx => hr x (List.mem_cons_of_mem _ hx)
    rcases bfStep_get k r l with ⟨a, ha, e, _, h1⟩ | h1
    · rw [h1] at hv
      cases hv
      rw [e]
      exact (h _ _ ha).snoc (hr r (List.mem_cons_self ..))
    · rw [h1] at hv
      exact h l v hv
def FinV (R : Str → Str → Int → Prop) (f : Str) (k : SR) (l : Str) : Prop := ∃ v, getR k l = some v ∧ Dist R f l v
theorem FinV.low {R : Str → Str → Int → Prop} {f : Str} {k k' : SR} {l : Str} (h : FinV R f k l) (lo : LowR k k') (s : SndV R f k') : FinV R f k' l := by
  obtain ⟨v, hv, hd⟩ := h
  obtain ⟨u, hu, hl⟩ := lo l v hv
  have := hd.2 u (s l u hu)
  have e : u = v := by omega
  exact ⟨u, hu, e ▸ hd⟩
theorem dist_ex {R : Str → Str → Int → Prop} (hR : ∀ f l a, R f l a → 0 ≤ a) {f l : Str} : ∀ (n : Nat) {w : Int}, w ≤ n → Wk R f l w → ∃ v, Dist R f l v := by
  intro n
  induction n with
  | zero =>
    intro w hn h
    exact ⟨w, h, fun u hu => by have := hu.nn hR; omega⟩
  | succ n ih =>
    intro w hn h
    by_cases z : ∃ u, Wk R f l u ∧ u < w
    · obtain ⟨u, hu, hl⟩ := z
      exact ih (by omega) hu
    · exact ⟨w, h, fun u hu => by
        by_cases y : u < w
        · exact absurd ⟨u, hu, y⟩ z
        · omega⟩
theorem filter_lt {α : Type} {p q : α → Bool} : ∀ {xs : List α}, (∀ x ∈ xs, p x = true → q x = true) → (∃ x ∈ xs, p x = false ∧ q x = true) → (xs.filter p).length < (xs.filter q).length
  | [], _, h => by obtain ⟨x, hx, _⟩ := h; cases hx
  | x :: xs, hm, h => by
    have le : (xs.filter p).length ≤ (xs.filter q).length := by
      clear h
      induction xs with
      | nil => exact Nat.le_refl _
      | cons y ys ih =>
        have ih := ih fun z hz => hm z (by
          rcases List.mem_cons.mp hz with e | hz
          · exact e ▸ List.mem_cons_self ..
          · exact List.mem_cons_of_mem _ (List.mem_cons_of_mem _ hz))
        rw [List.filter_cons, List.filter_cons]
        cases hp : p y with
        | true =>
          rw [if_pos rfl, if_pos (hm y (List.mem_cons_of_mem _ (List.mem_cons_self ..)) hp)]
          exact Nat.succ_le_succ ih
        | false =>
          rw [if_neg (by decide)]
          split
          · exact Nat.le_succ_of_le ih
          · exact ih
    rw [List.filter_cons, List.filter_cons]
    cases hp : p x with
    | true =>
      rw [if_pos rfl, if_pos (hm x (List.mem_cons_self ..) hp)]
      refine Nat.succ_lt_succ (filter_lt (fun z hz => hm z (List.mem_cons_of_mem _ hz)) ?_)
      obtain ⟨y, hy, h1, h2⟩ := h
      rcases List.mem_cons.mp hy with e | hy
      · rw [e, hp] at h1; cases h1
      · exact ⟨y, hy, h1, h2⟩
    | false =>
      rw [if_neg (by decide)]
      cases hq : q x with
      | true =>
        rw [if_pos rfl]
        exact Nat.lt_succ_of_le le
      | false =>
        rw [if_neg (by decide)]
        refine filter_lt (fun z hz => hm z (List.mem_cons_of_mem _ hz)) ?_
        obtain ⟨y, hy, h1, h2⟩ := h
        rcases List.mem_cons.mp hy with e | hy
        · rw [e, hq] at h2; cases h2
        · exact ⟨y, hy, h1, h2⟩
section
variable {ps : List Str} {rs : List LRow} {f : Str}
abbrev RowL (rs : List LRow) (f l : Str) (a : Int) : Prop := (f, l, a) ∈ rs
theorem bf_grow (h : ∀ r ∈ rs, r.1 ∈ ps ∧ r.2.1 ∈ ps ∧ 0 ≤ r.2.2) {k : SR} (s : SndV (RowL rs) f k) (hf : FinV (RowL rs) f k f) {l : Str} {w : Int} (hw : Wk (RowL rs) f l w) : (∀ u, Wk (RowL rs) f l u → w ≤ u) → ¬ FinV (RowL rs) f k l → ∃ v ∈ ps, ¬ FinV (RowL rs) f k v ∧ FinV (RowL rs) f (bfTurn rs k) v := by
  have s2 : SndV (RowL rs) f (bfTurn rs k) := s.turn fun r hr => hr
  induction hw with
  | nil => intro _ hn; exact absurd hf hn
  | @snoc m l a b hm r ih =>
    intro hmin hn
    have sub : ∀ u, Wk (RowL rs) f m u → a ≤ u := fun u hu => by
      have := hmin _ (hu.snoc r)
      omega
    by_cases z : FinV (RowL rs) f k m
    · obtain ⟨a', ha, hd⟩ := z
      have e : a' = a := hd.uniq ⟨hm, sub⟩
      rw [e] at ha
      obtain ⟨v, hv, hl⟩ := bfTurn_hit (k := k) r ha
      have hl : v ≤ a + b := hl
      have hv : getR (bfTurn rs k) l = some v := hv
      have := hmin v (s2 l v hv)
      have e2 : v = a + b := by omega
      exact ⟨l, (h _ r).2.1, hn, v, hv, e2 ▸ ⟨hm.snoc r, hmin⟩⟩
    · exact ih sub z
open Classical in
noncomputable def finC (ps : List Str) (rs : List LRow) (f : Str) (k : SR) : Nat := (ps.filter fun l => decide (FinV (RowL rs) f k l)).length
theorem bf_all (h : ∀ r ∈ rs, r.1 ∈ ps ∧ r.2.1 ∈ ps ∧ 0 ≤ r.2.2) (hf : f ∈ ps) : ∀ n, SndV (RowL rs) f (bfN rs n [(f, 0)]) ∧ FinV (RowL rs) f (bfN rs n [(f, 0)]) f ∧ ((∀ l w, Wk (RowL rs) f l w → FinV (RowL rs) f (bfN rs n [(f, 0)]) l) ∨ n + 1 ≤ finC ps rs f (bfN rs n [(f, 0)])) := by
  have nn : ∀ a b c, RowL rs a b c → 0 ≤ c := fun a b c hr => (h _ hr).2.2
  intro n
  induction n with
  | zero =>
    have g : ∀ l, getR [(f, (0 : Int))] l = if f = l then some 0 else none := fun l => rfl
    have hs : SndV (RowL rs) f [(f, 0)] := fun l v hv => by
      rw [g] at hv
      split at hv
      · rename_i e
        cases hv
        rw [← e]
        exact .nil
      · cases hv
    have hF : FinV (RowL rs) f [(f, 0)] f := ⟨0, by rw [g, if_pos rfl], .nil, fun w hw => hw.nn nn⟩
    refine ⟨hs, hF, .inr ?_⟩
    unfold finC
    have : f ∈ ps.filter fun l => @decide (FinV (RowL rs) f [(f, 0)] l) (Classical.propDecidable _) := List.mem_filter.mpr ⟨hf, @decide_eq_true _ (Classical.propDecidable _) hF⟩
    exact Nat.succ_le_of_lt (List.length_pos_of_mem this)
  | succ n ih =>
    obtain ⟨s, hF, hA⟩ := ih
    have s2 : SndV (RowL rs) f (bfTurn rs (bfN rs n [(f, 0)])) := s.turn fun r hr => hr
    have lo := bfTurn_low rs (bfN rs n [(f, 0)])
    refine ⟨s2, hF.low lo s2, ?_⟩
    by_cases z : ∀ l w, Wk (RowL rs) f l w → FinV (RowL rs) f (bfN rs n [(f, 0)]) l
    · exact .inl fun l w hw => (z l w hw).low lo s2
    · have hc := hA.resolve_left z
      refine .inr (Nat.lt_of_le_of_lt hc ?_)
      have ⟨l, z⟩ := Classical.not_forall.mp z
      have ⟨w, z⟩ := Classical.not_forall.mp z
      have ⟨hw, z⟩ := Classical.not_imp.mp z
      obtain ⟨v, hd⟩ := dist_ex nn (w.toNat) (Int.self_le_toNat w) hw
      obtain ⟨x, hx, h1, h2⟩ := bf_grow h s hF hd.1 hd.2 z
      refine filter_lt (fun y _ hy => ?_) ⟨x, hx, @decide_eq_false _ (Classical.propDecidable _) h1, @decide_eq_true _ (Classical.propDecidable _) h2⟩
      exact @decide_eq_true _ (Classical.propDecidable _) (FinV.low (@of_decide_eq_true _ (Classical.propDecidable _) hy) lo s2)
theorem bf_dist (h : ∀ r ∈ rs, r.1 ∈ ps ∧ r.2.1 ∈ ps ∧ 0 ≤ r.2.2) (hf : f ∈ ps) {n : Nat} (hn : ps.length ≤ n) (l : Str) (v : Int) : getR (bfN rs n [(f, 0)]) l = some v ↔ Dist (RowL rs) f l v := by
  obtain ⟨s, hF, hA⟩ := bf_all h hf n
  have all : ∀ l w, Wk (RowL rs) f l w → FinV (RowL rs) f (bfN rs n [(f, 0)]) l := by
    rcases hA with hA | hA
    · exact hA
    · unfold finC at hA
      have := List.length_filter_le (fun l => @decide (FinV (RowL rs) f (bfN rs n [(f, 0)]) l) (Classical.propDecidable _)) ps
      omega
  constructor
  · intro hv
    obtain ⟨u, hu, hd⟩ := all l v (s l v hv)
    have : u = v := Option.some.inj (hu.symm.trans hv)
    exact this ▸ hd
  · intro hd
    obtain ⟨u, hu, hd2⟩ := all l v hd.1
    rw [hu, hd2.uniq hd]
end
end Pu

set_option Elab.async false
set_option linter.all false
set_option maxRecDepth 100000
/-! the rows that a law goes along: keys, each once -/
namespace Pu
open PySem PySem.Spec PyProof.Rows L2
def KOk (ps : List Str) (k : SR) : Prop := (k.map (·.1)).Nodup ∧ ∀ j ∈ k.map (·.1), j ∈ ps
theorem KOk.put {ps : List Str} {k : SR} (h : KOk ps k) {l : Str} (hl : l ∈ ps) (v : Int) : KOk ps (putR k l v) :=
  ⟨putR_nd _ _ h.1, fun j hj => ((putR_keys _ _ _ _).mp hj).elim (fun e => e ▸ hl) (h.2 j)⟩
theorem KOk.step {ps : List Str} {k : SR} (h : KOk ps k) {r : LRow} (hl : r.2.1 ∈ ps) : KOk ps (bfStep k r) := by
  unfold bfStep
  split
  · exact h
  · split
    · exact h.put hl _
    · exact h
theorem KOk.fold {ps : List Str} : ∀ {rs : List LRow} {k : SR}, KOk ps k → (∀ r ∈ rs, r.2.1 ∈ ps) → KOk ps (rs.foldl bfStep k)
  | [], _, h, _ => h
  | r :: rs, _, h, hr => KOk.fold (rs := rs) (h.step (hr r (List.mem_cons_self ..))) fun x hx => hr x (List.mem_cons_of_mem _ hx)
theorem KOk.bfT {ps : List Str} {rs : List LRow} {k : SR} (h : KOk ps k) (hr : ∀ r ∈ rs, r.2.1 ∈ ps) (i : Nat) : KOk ps (bfT rs i k) := KOk.fold h fun r hx => hr r (List.mem_of_mem_take hx)
theorem KOk.bfN {ps : List Str} {rs : List LRow} {k : SR} (h : KOk ps k) (hr : ∀ r ∈ rs, r.2.1 ∈ ps) : ∀ n, KOk ps (bfN rs n k)
  | 0 => h
  | n + 1 => KOk.fold (KOk.bfN h hr n) hr
theorem KOk.begin {ps : List Str} {f : Str} (hf : f ∈ ps) : KOk ps [(f, 0)] := ⟨by simp, fun j hj => by
  have hj : j ∈ [f] := hj
  rw [List.mem_singleton.mp hj]
  exact hf⟩
theorem KOk.z {ps : List Str} {k : SR} (h : KOk ps k) (hl : ps.length ≤ 9) : (kvR V.int k).length < sizeLine := by
  rw [kvR_len]
  have := nodup_len h.1 h.2
  rw [List.length_map] at this
  exact Nat.lt_of_lt_of_le (Nat.lt_succ_of_le (Nat.le_trans this hl)) (sz 10)
theorem bfStep_none {k : SR} {r : LRow} (h : getR k r.1 = none) : bfStep k r = k := by
  unfold bfStep; rw [h]
theorem bfStep_yes {k : SR} {r : LRow} {a : Int} (h : getR k r.1 = some a) (b : better (getR k r.2.1) (a + r.2.2) = true) : bfStep k r = putR k r.2.1 (a + r.2.2) := by
  unfold bfStep; rw [h]; dsimp only; rw [if_pos b]
theorem bfStep_no {k : SR} {r : LRow} {a : Int} (h : getR k r.1 = some a) (b : better (getR k r.2.1) (a + r.2.2) = false) : bfStep k r = k := by
  unfold bfStep; rw [h]; dsimp only; rw [b, if_neg (by decide)]
end Pu

set_option Elab.async false
set_option linter.all false
set_option maxRecDepth 100000
set_option maxHeartbeats 4000000
namespace Pk
open PySem PySem.Spec PyProof.Rows L2 Pu

section
variable {P : Program} {w : World} {K : PySem.W.Frag} {mg : Str → Option Value} {base : Heap}
/-! ### the least sums, as the law finds them -/
def lawRows (d : PlanD) : List LRow := d.ties ++ d.caps.map (fun c => (("" : Str), c.1, c.2)) ++ d.evs.map (fun e => (e, ("" : Str), (0 : Int)))
theorem TiesAt.app {H : Hp} {as bs : List Addr} {rs ss : List LRow} (h : TiesAt H as rs) (h2 : TiesAt H bs ss) : TiesAt H (as ++ bs) (rs ++ ss) := by
  unfold TiesAt at *
  induction h with
  | nil => exact h2
  | cons r _ ih => exact .cons r ih
theorem lst_step {H3 H5 : Hp} {D T1 : Addr} {as : List Addr} {rs rs' : List LRow} {i n : Nat} {r : LRow} (hD : H3 D = none) (hD5 : H5 D = some (.lst (as.map V.ref))) (hR : TiesAt H5 as rs) (s : Same H3 H5) (hla : as.length ≤ i) (hi : i < n) (e : rs' = rs ++ [r])
    (n1 : H5 T1 = none) (h60 : n ≤ 100 := by omega) : ∃ acc, (upd H5 T1 (.tup (rowV r))) D = some (.lst acc) ∧ acc.length < sizeLine ∧
    (Same H3 (upd (upd H5 T1 (.tup (rowV r))) D (.lst (acc ++ [.ref T1]))) ∧ ∃ as', (upd (upd H5 T1 (.tup (rowV r))) D (.lst (acc ++ [.ref T1]))) D = some (.lst (as'.map V.ref)) ∧
      TiesAt (upd (upd H5 T1 (.tup (rowV r))) D (.lst (acc ++ [.ref T1]))) as' rs' ∧ as'.length ≤ i + 1) := by
  have s2 := same_upd n1 (o := .tup (rowV r))
  have hd := s2 _ _ hD5
  refine ⟨_, hd, ?_, same_put hD (Same.trans s s2), as ++ [T1], by rw [upd_same, List.map_append]; rfl, ?_, by rw [List.length_append]; show _ + 1 ≤ _; omega⟩
  · rw [List.length_map]
    exact Nat.lt_of_lt_of_le (by omega) (sz 1000)
  · rw [e]
    refine ((hR.same s2).snoc upd_same).keep fun a _ xs h => ?_
    rw [upd_ne]
    · exact h
    · intro z
      rw [z, hd] at h
      cases h
theorem capOf_nd {cs : List (Str × Int)} {c : Str × Int} (nd : (cs.map (·.1)).Nodup) (h : c ∈ cs) : capOf cs c.1 = some c.2 := by
  induction cs with
  | nil => cases h
  | cons x r ih =>
    rw [List.map_cons, List.nodup_cons] at nd
    unfold capOf
    rw [List.find?_cons]
    rcases List.mem_cons.mp h with e | h
    · rw [← e, decide_eq_true rfl]
      rfl
    · rw [decide_eq_false (fun z : x.1 = c.1 => nd.1 (z ▸ List.mem_map_of_mem (f := (·.1)) h))]
      exact ih nd.2 h
theorem lawRows_in {d : PlanD} (ok : PlanOk d) : ∀ r ∈ lawRows d, r.1 ∈ ("" : Str) :: d.evs ∧ r.2.1 ∈ ("" : Str) :: d.evs ∧ 0 ≤ r.2.2 := by
  intro r hr
  unfold lawRows at hr
  rcases List.mem_append.mp hr with hr | hr
  · rcases List.mem_append.mp hr with hr | hr
    · have := ok.tin r hr
      exact ⟨List.mem_cons_of_mem _ this.1, List.mem_cons_of_mem _ this.2.1, this.2.2⟩
    · obtain ⟨c, hc, rfl⟩ := List.mem_map.mp hr
      have := ok.cin c hc
      exact ⟨List.mem_cons_self .., List.mem_cons_of_mem _ this.1, this.2⟩
  · obtain ⟨e, he, rfl⟩ := List.mem_map.mp hr
    exact ⟨List.mem_cons_of_mem _ he, List.mem_cons_self .., Int.le_refl _⟩
theorem caps_len {d : PlanD} (ok : PlanOk d) : d.caps.length ≤ 8 := by
  have h := nodup_len ok.cnd (ys := d.evs) fun x hx => by
    obtain ⟨c, hc, rfl⟩ := List.mem_map.mp hx
    exact (ok.cin c hc).1
  rw [List.length_map] at h
  exact Nat.le_trans h ok.evs.hi
/-- a drawn model -/
def MdAt (H : Hp) (m : Addr) (d : PlanD) : Prop := ∃ (e t c : Addr) (ts : List Addr), H m = some (.lst [.ref e, .ref t, .ref c]) ∧ H e = some (.lst (d.evs.map V.str)) ∧ H t = some (.lst (ts.map V.ref)) ∧ TiesAt H ts d.ties ∧ H c = some (.dK (capsV d.caps))

end
end Pk

set_option Elab.async false
set_option linter.all false
set_option maxRecDepth 100000
/-! what events wait for; groups of events that keep together -/
namespace Pu
open PySem PySem.Spec PyProof.Rows L2
/-- a is e, or e waits for a -/
inductive Tr (ties : List LRow) : Str → Str → Prop
  | nil {e : Str} : Tr ties e e
  | step {a b e : Str} {n : Int} : (a, b, n) ∈ ties → Tr ties b e → Tr ties a e
theorem Tr.app {ties : List LRow} {a b c : Str} (h : Tr ties a b) (h2 : Tr ties b c) : Tr ties a c := by
  induction h with
  | nil => exact h2
  | step t _ ih => exact .step t (ih h2)
def ClR (ties : List LRow) (some : List Str) (a : Str) : Prop := ∃ e ∈ some, Tr ties a e
theorem ClR.step {ties : List LRow} {some : List Str} {t : LRow} (ht : t ∈ ties) (h : ClR ties some t.2.1) : ClR ties some t.1 := by
  obtain ⟨e, he, hr⟩ := h
  exact ⟨e, he, .step (n := t.2.2) ht hr⟩
theorem tr_cross {ties : List LRow} {S : List Str} {a e : Str} (h : Tr ties a e) : e ∈ S → a ∉ S → ∃ t ∈ ties, t.2.1 ∈ S ∧ t.1 ∉ S := by
  induction h with
  | nil => intro h1 h2; exact absurd h1 h2
  | @step a b e n ht _ ih =>
    intro h1 h2
    by_cases z : b ∈ S
    · exact ⟨_, ht, z, h2⟩
    · exact ih h1 z
theorem tr_in {ties : List LRow} {evs : List Str} (hin : ∀ t ∈ ties, t.1 ∈ evs) {a e : Str} (h : Tr ties a e) : e ∈ evs → a ∈ evs := by
  cases h with
  | nil => exact id
  | step ht _ => exact fun _ => hin _ ht
theorem filter_full {α : Type} {p : α → Bool} {xs : List α} (h : xs.length ≤ (xs.filter p).length) : ∀ x ∈ xs, p x = true := by
  have e := List.filter_sublist (p := p) (l := xs)
  have := e.eq_of_length_le h
  intro x hx
  rw [← this] at hx
  exact (List.mem_filter.mp hx).2
theorem cl_turns {ties : List LRow} {evs some : List Str} (hin : ∀ t ∈ ties, t.1 ∈ evs) (hs : ∀ e ∈ some, e ∈ evs) (S : Nat → List Str) (h0 : ∀ a ∈ some, a ∈ S 0) (mono : ∀ k a, a ∈ S k → a ∈ S (k + 1))
    (hit : ∀ k t, t ∈ ties → t.2.1 ∈ S k → t.1 ∈ S (k + 1)) (snd : ∀ k a, a ∈ S k → ClR ties some a) (n : Nat) (hn : evs.length ≤ n) (a : Str) : a ∈ S n ↔ ClR ties some a := by
  have base : ∀ k, ∀ a ∈ some, a ∈ S k := fun k => by
    induction k with
    | zero => exact h0
    | succ k ih => exact fun a ha => mono k a (ih a ha)
  have key : ∀ k, (∀ a, ClR ties some a → a ∈ S k) ∨ k ≤ (evs.filter fun e => decide (e ∈ S k)).length := fun k => by
    induction k with
    | zero => exact .inr (Nat.zero_le _)
    | succ k ih =>
      by_cases z : ∀ a, ClR ties some a → a ∈ S k
      · exact .inl fun a ha => mono k a (z a ha)
      · have hc := ih.resolve_left z
        have ⟨a, z⟩ := Classical.not_forall.mp z
        have ⟨ha, z⟩ := Classical.not_imp.mp z
        obtain ⟨e, he, hr⟩ := ha
        obtain ⟨t, ht, h1, h2⟩ := tr_cross hr (base k e he) z
        refine .inr (Nat.lt_of_le_of_lt hc (filter_lt (fun y _ hy => ?_) ⟨t.1, hin t ht, decide_eq_false h2, decide_eq_true (hit k t ht h1)⟩))
        exact decide_eq_true (mono k y (of_decide_eq_true hy))
  refine ⟨snd n a, fun h => ?_⟩
  rcases key n with k | k
  · exact k a h
  · obtain ⟨e, he, hr⟩ := h
    exact of_decide_eq_true (filter_full (Nat.le_trans hn k) a (tr_in hin hr (hs e he)))
/-! the law's turns -/
def lawStep (ties : List LRow) (S : List Str) : List Str := S ++ (ties.filter fun t => decide (t.2.1 ∈ S)).map (·.1)
def lawCl (ties : List LRow) (S : List Str) : Nat → List Str
  | 0 => S
  | n + 1 => lawStep ties (lawCl ties S n)
theorem lawStep_mem {ties : List LRow} {S : List Str} {a : Str} : a ∈ lawStep ties S ↔ a ∈ S ∨ ∃ t ∈ ties, t.2.1 ∈ S ∧ a = t.1 := by
  unfold lawStep
  rw [List.mem_append, List.mem_map]
  refine or_congr Iff.rfl ⟨?_, ?_⟩
  · rintro ⟨t, ht, rfl⟩
    obtain ⟨h1, h2⟩ := List.mem_filter.mp ht
    exact ⟨t, h1, of_decide_eq_true h2, rfl⟩
  · rintro ⟨t, h1, h2, rfl⟩
    exact ⟨t, List.mem_filter.mpr ⟨h1, decide_eq_true h2⟩, rfl⟩
theorem lawCl_len {ties : List LRow} {S : List Str} : ∀ n, (lawCl ties S n).length ≤ S.length + n * ties.length
  | 0 => by rw [Nat.zero_mul]; exact Nat.le_refl _
  | n + 1 => by
    have ih := lawCl_len (ties := ties) (S := S) n
    have h := List.length_filter_le (fun t : LRow => decide (t.2.1 ∈ lawCl ties S n)) ties
    show (lawStep ties (lawCl ties S n)).length ≤ _
    unfold lawStep
    rw [List.length_append, List.length_map, Nat.succ_mul]
    omega
theorem lawCl_iff {ties : List LRow} {evs some : List Str} (hin : ∀ t ∈ ties, t.1 ∈ evs) (hs : ∀ e ∈ some, e ∈ evs) (n : Nat) (hn : evs.length ≤ n) (a : Str) : a ∈ lawCl ties some n ↔ ClR ties some a := by
  refine cl_turns hin hs (lawCl ties some) (fun a h => h) (fun k a h => lawStep_mem.mpr (.inl h)) (fun k t ht h => lawStep_mem.mpr (.inr ⟨t, ht, h, rfl⟩)) (fun k => ?_) n hn a
  induction k with
  | zero => exact fun a h => ⟨a, h, .nil⟩
  | succ k ih =>
    intro a h
    rcases lawStep_mem.mp h with h | ⟨t, ht, h1, rfl⟩
    · exact ih a h
    · exact ClR.step ht (ih _ h1)
/-! the program's turns: a dict of marks -/
def addK (ks : List Str) (a : Str) : List Str := if a ∈ ks then ks else ks ++ [a]
theorem addK_mem {ks : List Str} {a x : Str} : x ∈ addK ks a ↔ x ∈ ks ∨ x = a := by
  unfold addK
  split
  · rename_i h
    exact ⟨.inl, fun z => z.elim id fun e => e ▸ h⟩
  · rw [List.mem_append, List.mem_singleton]
theorem addK_nd {ks : List Str} {a : Str} (h : ks.Nodup) : (addK ks a).Nodup := by
  unfold addK
  split
  · exact h
  · rename_i n
    rw [List.nodup_append]
    exact ⟨h, by simp, fun x hx y hy e => n (by rw [List.mem_singleton] at hy; rw [← hy, ← e]; exact hx)⟩
def markStep (ks : List Str) (t : LRow) : List Str := if t.2.1 ∈ ks then addK ks t.1 else ks
def markTurn (ties : List LRow) (ks : List Str) : List Str := ties.foldl markStep ks
def markT (ties : List LRow) (i : Nat) (ks : List Str) : List Str := (ties.take i).foldl markStep ks
def markN (ties : List LRow) (ks : List Str) : Nat → List Str
  | 0 => ks
  | n + 1 => markTurn ties (markN ties ks n)
theorem markT_all {ties : List LRow} {ks : List Str} : markT ties ties.length ks = markTurn ties ks := by
  unfold markT
  rw [List.take_length]
  rfl
theorem markT_step {ties : List LRow} {i : Nat} {ks : List Str} {t : LRow} (h : ties[i]? = some t) : markT ties (i + 1) ks = markStep (markT ties i ks) t := by
  unfold markT
  rw [List.take_add_one, h, List.foldl_append]
  rfl
theorem markStep_le {ks : List Str} {t : LRow} {a : Str} (h : a ∈ ks) : a ∈ markStep ks t := by
  unfold markStep
  split
  · exact addK_mem.mpr (.inl h)
  · exact h
theorem markTurn_le : ∀ {ties : List LRow} {ks : List Str} {a : Str}, a ∈ ks → a ∈ markTurn ties ks
  | [], _, _, h => h
  | t :: ts, ks, a, h => markTurn_le (ties := ts) (markStep_le h)
theorem markTurn_hit : ∀ {ties : List LRow} {ks : List Str} {t : LRow}, t ∈ ties → t.2.1 ∈ ks → t.1 ∈ markTurn ties ks
  | x :: ts, ks, t, h, hk => by
    rcases List.mem_cons.mp h with e | h
    · refine markTurn_le (ties := ts) ?_
      rw [← e]
      unfold markStep
      rw [if_pos hk]
      exact addK_mem.mpr (.inr rfl)
    · exact markTurn_hit (ties := ts) h (markStep_le hk)
theorem markT_snd {ties all : List LRow} {some : List Str} : ∀ {ks : List Str}, (∀ t ∈ ties, t ∈ all) → (∀ a ∈ ks, ClR all some a) → ∀ a ∈ ties.foldl markStep ks, ClR all some a := by
  induction ties with
  | nil => exact fun _ h => h
  | cons t ts ih =>
    intro ks ht h
    refine ih (fun x hx => ht x (List.mem_cons_of_mem _ hx)) fun a ha => ?_
    unfold markStep at ha
    split at ha
    · rename_i hk
      rcases addK_mem.mp ha with ha | rfl
      · exact h a ha
      · exact ClR.step (ht t (List.mem_cons_self ..)) (h _ hk)
    · exact h a ha
theorem markN_iff {ties : List LRow} {evs some ks : List Str} (hin : ∀ t ∈ ties, t.1 ∈ evs) (hs : ∀ e ∈ some, e ∈ evs) (hk : ∀ a, a ∈ ks ↔ a ∈ some) (n : Nat) (hn : evs.length ≤ n) (a : Str) : a ∈ markN ties ks n ↔ ClR ties some a := by
  refine cl_turns hin hs (markN ties ks) (fun a h => (hk a).mpr h) (fun k a h => markTurn_le h) (fun k t ht h => markTurn_hit ht h) (fun k => ?_) n hn a
  induction k with
  | zero => exact fun a h => ⟨a, (hk a).mp h, .nil⟩
  | succ k ih => exact markT_snd (fun _ h => h) ih
theorem mark_nd {ties : List LRow} : ∀ {ks : List Str}, ks.Nodup → (ties.foldl markStep ks).Nodup := by
  induction ties with
  | nil => exact fun h => h
  | cons t ts ih =>
    intro ks h
    refine ih ?_
    unfold markStep
    split
    · exact addK_nd h
    · exact h
theorem mark_in {ties : List LRow} {evs : List Str} : ∀ {ks : List Str}, (∀ t ∈ ties, t.1 ∈ evs) → (∀ a ∈ ks, a ∈ evs) → ∀ a ∈ ties.foldl markStep ks, a ∈ evs := by
  induction ties with
  | nil => exact fun _ h => h
  | cons t ts ih =>
    intro ks hin h
    refine ih (fun x hx => hin x (List.mem_cons_of_mem _ hx)) fun a ha => ?_
    unfold markStep at ha
    split at ha
    · rcases addK_mem.mp ha with ha | rfl
      · exact h a ha
      · exact hin t (List.mem_cons_self ..)
    · exact h a ha
/-! ### groups -/
def grpAdd (m : Str → Bool) (x : Str) : List (List Str) → List (List Str)
  | [] => [[x]]
  | r :: rs => if m (r.headD "") = true then (r ++ [x]) :: rs else r :: grpAdd m x rs
theorem grpAdd_none {m : Str → Bool} {x : Str} : ∀ {rs : List (List Str)}, (∀ r ∈ rs, m (r.headD "") = false) → grpAdd m x rs = rs ++ [[x]]
  | [], _ => rfl
  | r :: rs, h => by
    unfold grpAdd
    rw [h r (List.mem_cons_self ..), if_neg (by decide), grpAdd_none fun y hy => h y (List.mem_cons_of_mem _ hy)]
    rfl
theorem grpAdd_at {m : Str → Bool} {x : Str} : ∀ {a : List (List Str)} {r : List Str} {b : List (List Str)}, (∀ y ∈ a, m (y.headD "") = false) → m (r.headD "") = true → grpAdd m x (a ++ r :: b) = a ++ (r ++ [x]) :: b
  | [], r, b, _, h => by
    show grpAdd m x (r :: b) = _
    unfold grpAdd
    rw [if_pos h]
    rfl
  | y :: a, r, b, h, hr => by
    show grpAdd m x (y :: (a ++ r :: b)) = _
    unfold grpAdd
    rw [h y (List.mem_cons_self ..), if_neg (by decide), grpAdd_at (fun z hz => h z (List.mem_cons_of_mem _ hz)) hr]
    rfl
theorem grpAdd_size {m : Str → Bool} {x : Str} : ∀ {rs : List (List Str)}, (grpAdd m x rs).flatten.length = rs.flatten.length + 1
  | [] => rfl
  | r :: rs => by
    unfold grpAdd
    split
    · rw [List.flatten_cons, List.flatten_cons, List.length_append, List.length_append, List.length_append]
      show r.length + 1 + _ = _
      omega
    · rw [List.flatten_cons, List.flatten_cons, List.length_append, List.length_append, grpAdd_size (rs := rs)]
      omega
theorem grpAdd_all {m : Str → Bool} {x : Str} {p : List Str → Prop} (h1 : p [x]) (h2 : ∀ r, p r → p (r ++ [x])) : ∀ {rs : List (List Str)}, (∀ r ∈ rs, p r) → ∀ r ∈ grpAdd m x rs, p r
  | [], _, r, hr => by rw [List.mem_singleton.mp hr]; exact h1
  | y :: rs, h, r, hr => by
    unfold grpAdd at hr
    split at hr
    · rcases List.mem_cons.mp hr with rfl | hr
      · exact h2 y (h y (List.mem_cons_self ..))
      · exact h r (List.mem_cons_of_mem _ hr)
    · rcases List.mem_cons.mp hr with rfl | hr
      · exact h r (List.mem_cons_self ..)
      · exact grpAdd_all h1 h2 (rs := rs) (fun z hz => h z (List.mem_cons_of_mem _ hz)) r hr
theorem flat_low {α : Type} : ∀ {rs : List (List α)} {r : List α}, r ∈ rs → r.length ≤ rs.flatten.length
  | y :: rs, r, h => by
    rw [List.flatten_cons, List.length_append]
    rcases List.mem_cons.mp h with rfl | h
    · omega
    · have := flat_low (rs := rs) h
      omega
theorem flat_many {α : Type} : ∀ {rs : List (List α)}, (∀ r ∈ rs, r ≠ []) → rs.length ≤ rs.flatten.length
  | [], _ => Nat.le_refl _
  | y :: rs, h => by
    rw [List.flatten_cons, List.length_append]
    have := flat_many (rs := rs) fun z hz => h z (List.mem_cons_of_mem _ hz)
    have := List.length_pos_iff.mpr (h y (List.mem_cons_self ..))
    show rs.length + 1 ≤ _
    omega
/-- rows of events: none empty -/
structure GrpOk (evs : List Str) (n : Nat) (rows : List (List Str)) : Prop where
  ne : ∀ r ∈ rows, r ≠ [] ∧ ∀ e ∈ r, e ∈ evs
  size : rows.flatten.length = n
theorem GrpOk.add {evs : List Str} {n : Nat} {m : Str → Bool} {x : Str} {rows : List (List Str)} (h : GrpOk evs n rows) (hx : x ∈ evs) : GrpOk evs (n + 1) (grpAdd m x rows) :=
  ⟨grpAdd_all ⟨List.cons_ne_nil _ _, fun e he => List.mem_singleton.mp he ▸ hx⟩ (fun r hr => ⟨fun z => List.cons_ne_nil x [] (List.append_eq_nil_iff.mp z).2, fun e he => (List.mem_append.mp he).elim (hr.2 e) fun z => List.mem_singleton.mp z ▸ hx⟩) h.ne, by rw [grpAdd_size, h.size]⟩
theorem GrpOk.len {evs : List Str} {n : Nat} {rows : List (List Str)} (h : GrpOk evs n rows) : rows.length ≤ n := h.size ▸ flat_many fun r hr => (h.ne r hr).1
theorem GrpOk.low {evs : List Str} {n : Nat} {rows : List (List Str)} (h : GrpOk evs n rows) {r : List Str} (hr : r ∈ rows) : r.length ≤ n := h.size ▸ flat_low hr
theorem GrpOk.nil {evs : List Str} : GrpOk evs 0 [] := ⟨fun _ h => absurd h List.not_mem_nil, rfl⟩
/-- the rows whose first event is met -/
def metOf (m : Str → Bool) : List Addr → List (List Str) → List Addr
  | a :: as, r :: rs => if m (r.headD "") = true then a :: metOf m as rs else metOf m as rs
  | _, _ => []
theorem metOf_len {m : Str → Bool} : ∀ {as : List Addr} {rs : List (List Str)}, (metOf m as rs).length ≤ as.length
  | [], _ => by rw [metOf]; exact Nat.le_refl _; intros; contradiction
  | _ :: _, [] => by rw [metOf]; exact Nat.zero_le _; intros; contradiction
  | a :: as, r :: rs => by
    have ih := metOf_len (m := m) (as := as) (rs := rs)
    rw [metOf]
    split
    · exact Nat.succ_le_succ ih
    · exact Nat.le_succ_of_le ih
theorem metOf_take {m : Str → Bool} : ∀ {as : List Addr} {rs : List (List Str)} {i : Nat} {a : Addr} {r : List Str}, as[i]? = some a → rs[i]? = some r → metOf m (as.take (i + 1)) (rs.take (i + 1)) = metOf m (as.take i) (rs.take i) ++ if m (r.headD "") = true then [a] else []
  | [], _, i, a, r, h, _ => by simp at h
  | _ :: _, [], i, a, r, _, h => by simp at h
  | b :: as, s :: rs, 0, a, r, h, h' => by
    have h : some b = some a := h
    have h' : some s = some r := h'
    cases h
    cases h'
    show (if m (s.headD "") = true then b :: metOf m [] [] else metOf m [] []) = [] ++ _
    split <;> rfl
  | b :: as, s :: rs, i + 1, a, r, h, h' => by
    have h : as[i]? = some a := h
    have h' : rs[i]? = some r := h'
    have ih := metOf_take (m := m) h h'
    show (if m (s.headD "") = true then b :: metOf m (as.take (i + 1)) (rs.take (i + 1)) else metOf m (as.take (i + 1)) (rs.take (i + 1))) = (if m (s.headD "") = true then b :: metOf m (as.take i) (rs.take i) else metOf m (as.take i) (rs.take i)) ++ _
    rw [ih]
    split <;> rfl
def grpOf (sim : Str → Str → Bool) (es : List Str) : List (List Str) := es.foldl (fun rs x => grpAdd (sim x) x rs) []
def isFst (sim : Str → Str → Bool) (es : List Str) (e : Str) : Bool := decide ((es.filter (sim e)).headD "" = e)
def lawGrp (sim : Str → Str → Bool) (es : List Str) : List (List Str) := (es.filter (isFst sim es)).map fun e => es.filter (sim e)
/-- along rows whose heads are all of F, each of which is met at most once -/
theorem grpAdd_map {m : Str → Bool} {x : Str} {g : Str → List Str} : ∀ {F : List Str}, (∀ e ∈ F, (g e).headD "" = e) → F.Nodup → (∀ e ∈ F, ∀ e' ∈ F, m e = true → m e' = true → e = e') →
    grpAdd m x (F.map g) = (F.map fun e => g e ++ if m e = true then [x] else []) ++ if F.any m = true then [] else [[x]]
  | [], _, _, _ => rfl
  | e :: F, hg, nd, hu => by
    rw [List.nodup_cons] at nd
    rw [List.map_cons, List.map_cons, List.any_cons]
    unfold grpAdd
    rw [hg e (List.mem_cons_self ..)]
    cases h : m e with
    | true =>
      rw [if_pos rfl, if_pos rfl, Bool.true_or, if_pos rfl, List.append_nil]
      congr 1
      refine List.map_congr_left fun e' he' => ?_
      rw [if_neg, List.append_nil]
      intro h'
      exact nd.1 (hu e (List.mem_cons_self ..) e' (List.mem_cons_of_mem _ he') h h' ▸ he')
    | false =>
      rw [if_neg (by decide), if_neg (by decide), List.append_nil, Bool.false_or, List.cons_append]
      congr 1
      exact grpAdd_map (fun e' he' => hg e' (List.mem_cons_of_mem _ he')) nd.2 fun a ha b hb => hu a (List.mem_cons_of_mem _ ha) b (List.mem_cons_of_mem _ hb)
theorem headD_mem {xs : List Str} (h : xs ≠ []) : xs.headD "" ∈ xs := by
  cases xs with
  | nil => exact absurd rfl h
  | cons x r => exact List.mem_cons_self ..
theorem headD_app {xs ys : List Str} (h : xs ≠ []) : (xs ++ ys).headD "" = xs.headD "" := by
  cases xs with
  | nil => exact absurd rfl h
  | cons x r => rfl
theorem grp_eq {sim : Str → Str → Bool} {es : List Str} (nd : es.Nodup) (rf : ∀ e ∈ es, sim e e = true) (sy : ∀ e e', sim e e' = sim e' e) (tr : ∀ a ∈ es, ∀ b ∈ es, ∀ c ∈ es, sim a b = true → sim b c = true → sim a c = true) :
    grpOf sim es = lawGrp sim es := by
  have key : ∀ n, n ≤ es.length → (es.take n).foldl (fun rs x => grpAdd (sim x) x rs) [] = lawGrp sim (es.take n) := fun n => by
    induction n with
    | zero => intro _; rfl
    | succ n ih =>
      intro hn
      have hlt : n < es.length := hn
      have hx : es[n]? = some es[n] := List.getElem?_eq_getElem hlt
      have ih := ih (Nat.le_of_lt hlt)
      have sub : ∀ e ∈ es.take n, e ∈ es := fun e he => List.mem_of_mem_take he
      have xm : es[n] ∈ es := List.getElem_mem hlt
      have xn : es[n] ∉ es.take n := take_not nd hx
      have ndP : (es.take n).Nodup := nd.sublist (List.take_sublist ..)
      rw [List.take_add_one, hx, List.foldl_append, ih]
      show grpAdd (sim es[n]) es[n] (lawGrp sim (es.take n)) = lawGrp sim (es.take n ++ [es[n]])
      revert xm xn
      generalize es[n] = x
      revert sub ndP
      clear ih hx
      generalize es.take n = P
      intro sub ndP xm xn
      have ne : ∀ e ∈ P, P.filter (sim e) ≠ [] := fun e he z => by
        have : e ∈ P.filter (sim e) := List.mem_filter.mpr ⟨he, rf e (sub e he)⟩
        rw [z] at this
        cases this
      have fe : ∀ e, (P ++ [x]).filter (sim e) = P.filter (sim e) ++ if sim e x = true then [x] else [] := fun e => by
        rw [List.filter_append, List.filter_cons, List.filter_nil]
      have cong : ∀ e ∈ es, ∀ e' ∈ es, sim e e' = true → P.filter (sim e) = P.filter (sim e') := fun e he e' he' h => List.filter_congr fun y hy => by
        rw [Bool.eq_iff_iff]
        exact ⟨fun z => tr e' he' e he y (sub y hy) ((sy e' e).trans h) z, fun z => tr e he e' he' y (sub y hy) h z⟩
      have f1 : ∀ e ∈ P, isFst sim (P ++ [x]) e = isFst sim P e := fun e he => by
        unfold isFst
        rw [fe, headD_app (ne e he)]
      have any : (P.filter (isFst sim P)).any (sim x) = P.any (sim x) := by
        rw [Bool.eq_iff_iff, List.any_eq_true, List.any_eq_true]
        constructor
        · rintro ⟨e, he, h⟩
          exact ⟨e, (List.mem_filter.mp he).1, h⟩
        · rintro ⟨e, he, h⟩
          obtain ⟨hp, hs⟩ := List.mem_filter.mp (headD_mem (ne e he))
          have e2 := cong e (sub e he) _ (sub _ hp) hs
          refine ⟨(P.filter (sim e)).headD "", List.mem_filter.mpr ⟨hp, decide_eq_true ?_⟩, tr x xm e (sub e he) _ (sub _ hp) h hs⟩
          rw [← e2]
      have fx : isFst sim (P ++ [x]) x = !P.any (sim x) := by
        unfold isFst
        rw [fe, rf x xm, if_pos rfl]
        cases h : P.any (sim x) with
        | true =>
          obtain ⟨e, he, hs⟩ := List.any_eq_true.mp h
          have n0 : P.filter (sim x) ≠ [] := fun z => by
            have : e ∈ P.filter (sim x) := List.mem_filter.mpr ⟨he, hs⟩
            rw [z] at this
            cases this
          rw [headD_app n0]
          exact decide_eq_false fun z => xn (z ▸ (List.mem_filter.mp (headD_mem n0)).1)
        | false =>
          have n0 : P.filter (sim x) = [] := List.filter_eq_nil_iff.mpr fun y hy z => by
            have : P.any (sim x) = true := List.any_eq_true.mpr ⟨y, hy, z⟩
            rw [h] at this
            cases this
          rw [n0]
          exact decide_eq_true rfl
      unfold lawGrp
      rw [grpAdd_map (g := fun e => P.filter (sim e)) (F := P.filter (isFst sim P)) (fun e he => of_decide_eq_true (List.mem_filter.mp he).2) (ndP.sublist List.filter_sublist) (fun e he e' he' h h' => ?_), any, List.filter_append, List.map_append]
      · congr 1
        · rw [List.filter_congr f1]
          refine List.map_congr_left fun e he => ?_
          rw [fe, sy e x]
        · rw [List.filter_cons, List.filter_nil, fx]
          cases h : P.any (sim x) with
          | true => rfl
          | false =>
            rw [if_neg (by decide), if_pos (show (!false) = true from rfl), List.map_cons, List.map_nil, fe, rf x xm, if_pos rfl]
            have n0 : P.filter (sim x) = [] := List.filter_eq_nil_iff.mpr fun y hy z => by
              have : P.any (sim x) = true := List.any_eq_true.mpr ⟨y, hy, z⟩
              rw [h] at this
              cases this
            rw [n0]
            rfl
      · obtain ⟨p1, q1⟩ := List.mem_filter.mp he
        obtain ⟨p2, q2⟩ := List.mem_filter.mp he'
        have := cong e (sub e p1) e' (sub e' p2) (tr e (sub e p1) x xm e' (sub e' p2) ((sy e x).trans h) h')
        rw [← of_decide_eq_true q1, ← of_decide_eq_true q2, this]
  have := key es.length (Nat.le_refl _)
  rw [List.take_length] at this
  exact this
end Pu

set_option Elab.async false
set_option linter.all false
set_option maxRecDepth 100000
set_option maxHeartbeats 4000000
namespace Pk
open PySem PySem.Spec PyProof.Rows L2 Pu
section
variable {P : Program} {w : World} {K : PySem.W.Frag} {mg : Str → Option Value} {base : Heap}
/-! ### a plan's rows as plain data -/
theorem rows_split {H : Hp} {as : List Addr} {rs : List PRow} (h : RowsAt H as rs) : ∃ ts : List TRow, TRowsAt H as ts ∧ Paired (fun (t : TRow) (r : PRow) => t.1 = r.1 ∧ t.2.1 = r.2.1 ∧ t.2.2.1 = r.2.2.1 ∧ H t.2.2.2 = some (.tup [.str r.2.2.2.1, r.2.2.2.2])) ts rs := by
  unfold RowsAt at h
  induction h with
  | nil => exact ⟨[], .nil, .nil⟩
  | @cons a r as rs h _ ih =>
    obtain ⟨t, h1, h2⟩ := h
    obtain ⟨ts, i1, i2⟩ := ih
    exact ⟨(r.1, r.2.1, r.2.2.1, t) :: ts, .cons h1 i1, .cons ⟨rfl, rfl, rfl, h2⟩ i2⟩
theorem paired_mem {α β : Type} {R : α → β → Prop} {xs : List α} {ys : List β} (h : Paired R xs ys) : ∀ x ∈ xs, ∃ y ∈ ys, R x y := by
  induction h with
  | nil => intro x hx; cases hx
  | cons a _ ih =>
    intro x hx
    rcases List.mem_cons.mp hx with e | hx
    · exact ⟨_, List.mem_cons_self .., e ▸ a⟩
    · obtain ⟨y, hy, r⟩ := ih x hx
      exact ⟨y, List.mem_cons_of_mem _ hy, r⟩
theorem name_ne {e : Str} (h : nameOk e = true) : e ≠ ("" : Str) := fun z => by
  rw [z] at h
  exact absurd h (by decide)
theorem evs_nd {d : PlanD} (ok : PlanOk d) : (("" : Str) :: d.evs).Nodup := by
  rw [List.nodup_cons]
  exact ⟨fun z => name_ne (ok.evs.nm _ z) rfl, ok.evs.nd⟩
theorem planRows_len {d : PlanD} (ok : PlanOk d) : (planRows d).length ≤ 100 := by
  have h1 := ok.evs.hi
  have h2 := ok.tl
  unfold planRows rowsT rowsC rowsN
  rw [List.length_append, List.length_append, List.length_map, List.length_zipIdx, List.length_map, List.length_map]
  have := List.length_filter_le (fun e => (capOf d.caps e).isSome) d.evs
  omega
theorem capOf_nn {d : PlanD} (ok : PlanOk d) (e : Str) : 0 ≤ (capOf d.caps e).getD 0 := by
  unfold capOf
  cases h : d.caps.find? fun c => decide (c.1 = e) with
  | none => exact Int.le_refl _
  | some c => exact (ok.cin c (List.mem_of_find?_eq_some h)).2
theorem planRows_in {d : PlanD} (ok : PlanOk d) : ∀ r ∈ planRows d, r.1 ∈ ("" : Str) :: d.evs ∧ r.2.1 ∈ ("" : Str) :: d.evs ∧ 0 ≤ r.2.2.1 := by
  intro r hr
  unfold planRows at hr
  rcases List.mem_append.mp hr with hr | hr
  · rcases List.mem_append.mp hr with hr | hr
    · unfold rowsT at hr
      obtain ⟨t, ht, rfl⟩ := List.mem_map.mp hr
      have hm := ok.tin t.1 (List.fst_mem_of_mem_zipIdx ht)
      exact ⟨List.mem_cons_of_mem _ hm.1, List.mem_cons_of_mem _ hm.2.1, hm.2.2⟩
    · unfold rowsC at hr
      obtain ⟨e, he, rfl⟩ := List.mem_map.mp hr
      exact ⟨List.mem_cons_self .., List.mem_cons_of_mem _ (List.mem_filter.mp he).1, capOf_nn ok e⟩
  · unfold rowsN at hr
    obtain ⟨e, he, rfl⟩ := List.mem_map.mp hr
    exact ⟨List.mem_cons_of_mem _ he, List.mem_cons_self .., Int.le_refl _⟩

/-! ### the rows of the program and of the law are the same -/
theorem mem_zip_of {α : Type} : ∀ {xs : List α} {x : α} (k : Nat), x ∈ xs → ∃ i, (x, i) ∈ xs.zipIdx k
  | y :: ys, x, k, h => by
    rw [List.zipIdx_cons]
    rcases List.mem_cons.mp h with rfl | h
    · exact ⟨k, List.mem_cons_self ..⟩
    · obtain ⟨i, hi⟩ := mem_zip_of (k + 1) h
      exact ⟨i, List.mem_cons_of_mem _ hi⟩
theorem capOf_mem {cs : List (Str × Int)} {e : Str} {n : Int} (h : capOf cs e = some n) : (e, n) ∈ cs := by
  unfold capOf at h
  cases q : cs.find? fun c => decide (c.1 = e) with
  | none => rw [q] at h; cases h
  | some c =>
    rw [q] at h
    cases h
    have z : decide (c.1 = e) = true := List.find?_some (p := fun c : Str × Int => decide (c.1 = e)) q
    rw [← of_decide_eq_true z]
    exact List.mem_of_find?_eq_some q
theorem rows_law {d : PlanD} (ok : PlanOk d) (f l : Str) (a : Int) : (∃ r ∈ planRows d, r.1 = f ∧ r.2.1 = l ∧ r.2.2.1 = a) ↔ (f, l, a) ∈ lawRows d := by
  unfold planRows lawRows
  constructor
  · rintro ⟨r, hr, rfl, rfl, rfl⟩
    rcases List.mem_append.mp hr with hr | hr
    · rcases List.mem_append.mp hr with hr | hr
      · obtain ⟨t, ht, rfl⟩ := List.mem_map.mp hr
        exact List.mem_append_left _ (List.mem_append_left _ (List.fst_mem_of_mem_zipIdx ht))
      · obtain ⟨e, he, rfl⟩ := List.mem_map.mp hr
        obtain ⟨_, hs⟩ := List.mem_filter.mp he
        obtain ⟨n, hn⟩ := Option.isSome_iff_exists.mp hs
        refine List.mem_append_left _ (List.mem_append_right _ (List.mem_map.mpr ⟨(e, n), capOf_mem hn, ?_⟩))
        rw [hn]
        rfl
    · obtain ⟨e, he, rfl⟩ := List.mem_map.mp hr
      exact List.mem_append_right _ (List.mem_map.mpr ⟨e, he, rfl⟩)
  · intro h
    rcases List.mem_append.mp h with h | h
    · rcases List.mem_append.mp h with h | h
      · obtain ⟨i, hi⟩ := mem_zip_of 0 h
        exact ⟨_, List.mem_append_left _ (List.mem_append_left _ (List.mem_map.mpr ⟨_, hi, rfl⟩)), rfl, rfl, rfl⟩
      · obtain ⟨c, hc, z⟩ := List.mem_map.mp h
        cases z
        have hn := capOf_nd ok.cnd hc
        refine ⟨_, List.mem_append_left _ (List.mem_append_right _ (List.mem_map.mpr ⟨c.1, List.mem_filter.mpr ⟨(ok.cin c hc).1, by rw [hn]; rfl⟩, rfl⟩)), rfl, rfl, ?_⟩
        rw [hn]
        rfl
    · obtain ⟨e, he, z⟩ := List.mem_map.mp h
      cases z
      exact ⟨_, List.mem_append_right _ (List.mem_map.mpr ⟨_, he, rfl⟩), rfl, rfl, rfl⟩
theorem paired_mem2 {α β : Type} {R : α → β → Prop} {xs : List α} {ys : List β} (h : Paired R xs ys) : ∀ y ∈ ys, ∃ x ∈ xs, R x y := by
  induction h with
  | nil => intro x hx; cases hx
  | cons a _ ih =>
    intro y hy
    rcases List.mem_cons.mp hy with e | hy
    · exact ⟨_, List.mem_cons_self .., e ▸ a⟩
    · obtain ⟨x, hx, r⟩ := ih y hy
      exact ⟨x, List.mem_cons_of_mem _ hx, r⟩
theorem rowR_iff {d : PlanD} (ok : PlanOk d) {H : Hp} {rs : List TRow} (h : Paired (fun (t : TRow) (r : PRow) => t.1 = r.1 ∧ t.2.1 = r.2.1 ∧ t.2.2.1 = r.2.2.1 ∧ H t.2.2.2 = some (.tup [.str r.2.2.2.1, r.2.2.2.2])) rs (planRows d)) (f l : Str) (a : Int) : RowR rs f l a ↔ RowL (lawRows d) f l a := by
  constructor
  · rintro ⟨t, ht⟩
    obtain ⟨r, hr, h1, h2, h3, _⟩ := paired_mem h _ ht
    exact (rows_law ok f l a).mp ⟨r, hr, h1.symm, h2.symm, h3.symm⟩
  · intro hl
    obtain ⟨r, hr, rfl, rfl, rfl⟩ := (rows_law ok f l a).mpr hl
    obtain ⟨t, ht, h1, h2, h3, _⟩ := paired_mem2 h _ hr
    refine ⟨t.2.2.2, ?_⟩
    rw [← h1, ← h2, ← h3]
    exact ht
/-- the least sums of a plan's rows, as the law finds them -/
def far (d : PlanD) (f : Str) : SR := bfN (lawRows d) (d.evs.length + 1) [(f, 0)]
theorem far_dist {d : PlanD} (ok : PlanOk d) {f : Str} (hf : f ∈ ("" : Str) :: d.evs) (l : Str) (v : Int) : getR (far d f) l = some v ↔ Dist (RowL (lawRows d)) f l v :=
  bf_dist (lawRows_in ok) hf (Nat.le_refl _) l v
theorem far_all {d : PlanD} (ok : PlanOk d) {H : Hp} {rs : List TRow} (h : Paired (fun (t : TRow) (r : PRow) => t.1 = r.1 ∧ t.2.1 = r.2.1 ∧ t.2.2.1 = r.2.2.1 ∧ H t.2.2.2 = some (.tup [.str r.2.2.2.1, r.2.2.2.2])) rs (planRows d)) {f : Str} (hf : f ∈ ("" : Str) :: d.evs) (l : Str) : sOf (allZ (("" : Str) :: d.evs) rs) f l = getR (far d f) l := by
  have hrs : ∀ r ∈ rs, r.1 ∈ ("" : Str) :: d.evs ∧ r.2.1 ∈ ("" : Str) :: d.evs ∧ 0 ≤ r.2.2.1 := fun r hr => by
    obtain ⟨y, hy, q1, q2, q3, _⟩ := paired_mem h r hr
    rw [q1, q2, q3]
    exact planRows_in ok y hy
  have hi := rowR_iff ok h
  refine Option.ext fun v => ?_
  rw [all_dist (evs_nd ok) hrs hf l v, far_dist ok hf]
  exact ⟨fun z => z.imp (fun f l a => (hi f l a).mp) (fun f l a => (hi f l a).mpr), fun z => z.imp (fun f l a => (hi f l a).mpr) (fun f l a => (hi f l a).mp)⟩
theorem law_nn {d : PlanD} (ok : PlanOk d) (a b : Str) (c : Int) (h : RowL (lawRows d) a b c) : 0 ≤ c := (lawRows_in ok _ h).2.2
theorem far_some {d : PlanD} (ok : PlanOk d) {f : Str} (hf : f ∈ ("" : Str) :: d.evs) (l : Str) : (getR (far d f) l).isSome = true ↔ ∃ w, Wk (RowL (lawRows d)) f l w := by
  rw [Option.isSome_iff_exists]
  constructor
  · rintro ⟨v, hv⟩
    exact ⟨v, ((far_dist ok hf l v).mp hv).1⟩
  · rintro ⟨w, hw⟩
    obtain ⟨v, hd⟩ := dist_ex (law_nn ok) w.toNat (Int.self_le_toNat w) hw
    exact ⟨v, (far_dist ok hf l v).mpr hd⟩
theorem far_in {d : PlanD} (ok : PlanOk d) {f : Str} (hf : f ∈ ("" : Str) :: d.evs) {l : Str} {v : Int} (h : getR (far d f) l = some v) : l ∈ ("" : Str) :: d.evs := by
  have k : KOk (("" : Str) :: d.evs) (far d f) := (KOk.begin hf).bfN (fun r hr => (lawRows_in ok r hr).2.1) _
  exact k.2 _ (List.mem_map_of_mem (f := (·.1)) (getR_mem h))
/-- two events keep together -/
def simB (d : PlanD) (e g : Str) : Bool := (getR (far d e) g).isSome && (getR (far d g) e).isSome
theorem simB_symm (d : PlanD) (e g : Str) : simB d e g = simB d g e := by
  unfold simB
  exact Bool.and_comm ..
theorem simB_refl {d : PlanD} (ok : PlanOk d) {e : Str} (he : e ∈ d.evs) : simB d e e = true := by
  have h := (far_some ok (List.mem_cons_of_mem _ he) e).mpr ⟨0, .nil⟩
  unfold simB
  rw [h]
  rfl
theorem simB_trans {d : PlanD} (ok : PlanOk d) (a : Str) (ha : a ∈ d.evs) (b : Str) (hb : b ∈ d.evs) (c : Str) (hc : c ∈ d.evs) (h1 : simB d a b = true) (h2 : simB d b c = true) : simB d a c = true := by
  have m : ∀ {x}, x ∈ d.evs → x ∈ ("" : Str) :: d.evs := fun h => List.mem_cons_of_mem _ h
  unfold simB at *
  obtain ⟨p1, p2⟩ := Bool.and_eq_true_iff.mp h1
  obtain ⟨q1, q2⟩ := Bool.and_eq_true_iff.mp h2
  obtain ⟨_, w1⟩ := (far_some ok (m ha) b).mp p1
  obtain ⟨_, w2⟩ := (far_some ok (m hb) a).mp p2
  obtain ⟨_, w3⟩ := (far_some ok (m hb) c).mp q1
  obtain ⟨_, w4⟩ := (far_some ok (m hc) b).mp q2
  exact Bool.and_eq_true_iff.mpr ⟨(far_some ok (m ha) c).mpr ⟨_, w1.app w3⟩, (far_some ok (m hc) a).mpr ⟨_, w4.app w2⟩⟩
/-- the endless events -/
def dueB (d : PlanD) (e : Str) : Bool := !(getR (far d "") e).isSome
theorem held_tr {d : PlanD} (ok : PlanOk d) {e : Str} {w : Int} (h : Wk (RowL (lawRows d)) "" e w) : e ≠ "" → ∃ x ∈ d.caps.map (·.1), Tr d.ties x e := by
  induction h with
  | nil => intro z; exact absurd rfl z
  | @snoc k l a b _ r ih =>
    intro hl
    have r : (k, l, b) ∈ lawRows d := r
    unfold lawRows at r
    rcases List.mem_append.mp r with r | r
    · rcases List.mem_append.mp r with r | r
      · have hk : k ≠ "" := fun z => name_ne (ok.evs.nm _ (ok.tin _ r).1) z
        obtain ⟨x, hx, ht⟩ := ih hk
        exact ⟨x, hx, ht.app (.step r .nil)⟩
      · obtain ⟨c, hc, z⟩ := List.mem_map.mp r
        cases z
        exact ⟨_, List.mem_map_of_mem (f := (·.1)) hc, .nil⟩
    · obtain ⟨g, _, z⟩ := List.mem_map.mp r
      cases z
      exact absurd rfl hl
theorem tr_wk {d : PlanD} {a e : Str} (h : Tr d.ties a e) : ∃ w, Wk (RowL (lawRows d)) a e w := by
  induction h with
  | nil => exact ⟨0, .nil⟩
  | @step a b e n ht _ ih =>
    obtain ⟨w, hw⟩ := ih
    exact ⟨_, (Wk.one (show RowL (lawRows d) a b n from List.mem_append_left _ (List.mem_append_left _ ht))).app hw⟩
theorem due_iff {d : PlanD} (ok : PlanOk d) {e : Str} (he : e ∈ d.evs) : dueB d e = true ↔ ∀ x ∈ d.caps.map (·.1), ¬ ClR d.ties [e] x := by
  unfold dueB
  rw [Bool.not_eq_true', ← Bool.not_eq_true, far_some ok (List.mem_cons_self ..)]
  constructor
  · rintro h x hx ⟨e', he', ht⟩
    rw [List.mem_singleton.mp he'] at ht
    obtain ⟨c, hc, rfl⟩ := List.mem_map.mp hx
    obtain ⟨w, hw⟩ := tr_wk ht
    exact h ⟨_, (Wk.one (show RowL (lawRows d) "" c.1 c.2 from List.mem_append_left _ (List.mem_append_right _ (List.mem_map_of_mem (f := fun c : Str × Int => (("" : Str), c.1, c.2)) hc)))).app hw⟩
  · rintro h ⟨w, hw⟩
    obtain ⟨x, hx, ht⟩ := held_tr ok hw (name_ne (ok.evs.nm _ he))
    exact h x hx ⟨e, List.mem_singleton.mpr rfl, ht⟩
/-- what the events of a list wait for -/
def closedL (d : PlanD) (some : List Str) : List Str := d.evs.filter fun e => decide (e ∈ lawCl d.ties some d.evs.length)
theorem closed_mark {d : PlanD} (ok : PlanOk d) {some ks : List Str} (hs : ∀ e ∈ some, e ∈ d.evs) (hk : ∀ a, a ∈ ks ↔ a ∈ some) : (d.evs.filter fun e => decide (e ∈ markN d.ties ks d.evs.length)) = closedL d some := by
  refine List.filter_congr fun e _ => ?_
  rw [Bool.eq_iff_iff, decide_eq_true_iff, decide_eq_true_iff, markN_iff (fun t ht => (ok.tin t ht).1) hs hk _ (Nat.le_refl _), lawCl_iff (fun t ht => (ok.tin t ht).1) hs _ (Nat.le_refl _)]
theorem due_closed {d : PlanD} (ok : PlanOk d) {e : Str} (he : e ∈ d.evs) : dueB d e = true ↔ (closedL d [e]).filter (fun x => decide (x ∈ d.caps.map (·.1))) = [] := by
  rw [due_iff ok he, List.filter_eq_nil_iff]
  have hs : ∀ x ∈ [e], x ∈ d.evs := fun x hx => List.mem_singleton.mp hx ▸ he
  constructor
  · intro h x hx z
    obtain ⟨_, h2⟩ := List.mem_filter.mp hx
    exact h x (of_decide_eq_true z) ((lawCl_iff (fun t ht => (ok.tin t ht).1) hs _ (Nat.le_refl _) x).mp (of_decide_eq_true h2))
  · intro h x hx hc
    refine h x (List.mem_filter.mpr ⟨?_, decide_eq_true ((lawCl_iff (fun t ht => (ok.tin t ht).1) hs _ (Nat.le_refl _) x).mpr hc)⟩) (decide_eq_true hx)
    obtain ⟨c, hc2, rfl⟩ := List.mem_map.mp hx
    exact (ok.cin c hc2).1

/-! ### the closed sums of a plan -/
structure SumsAt (H : Hp) (q : Addr) (d : PlanD) : Prop where
  ex : ∃ (sa : Str → Addr) (Z : Str → SR × WR), H q = some (.dK (outV (("" : Str) :: d.evs) sa)) ∧ (∀ f ∈ ("" : Str) :: d.evs, H (sa f) = some (.dK (kvR V.int (Z f).1))) ∧ ∀ f ∈ ("" : Str) :: d.evs, ∀ l, getR (Z f).1 l = getR (far d f) l
theorem SumsAt.same {H H' : Hp} {q : Addr} {d : PlanD} (h : SumsAt H q d) (s : Same H H') : SumsAt H' q d := by
  obtain ⟨sa, Z, h1, h2, h3⟩ := h.ex
  exact ⟨sa, Z, s _ _ h1, fun f hf => s _ _ (h2 f hf), h3⟩
theorem SumsAt.row {H : Hp} {q : Addr} {d : PlanD} (h : SumsAt H q d) {f : Str} (hf : f ∈ ("" : Str) :: d.evs) : ∃ a, DGet H q (.str f) (some (.ref a)) ∧ ∀ l, DGet H a (.str l) ((getR (far d f) l).map V.int) := by
  obtain ⟨sa, Z, h1, h2, h3⟩ := h.ex
  refine ⟨sa f, .inl ⟨outV (("" : Str) :: d.evs) sa, .inr f, .inl h1, rfl, (outV_get hf).symm⟩, fun l => .inl ⟨kvR V.int _, .inr l, .inl (h2 f hf), rfl, ?_⟩⟩
  rw [valV_kvR, h3 f hf l]
theorem SumsAt.row2 {H : Hp} {q : Addr} {d : PlanD} (h : SumsAt H q d) {f : Str} (hf : f ∈ ("" : Str) :: d.evs) : ∃ a kvs, DGet H q (.str f) (some (.ref a)) ∧ H a = some (.dK kvs) ∧ ∀ l, DGet H a (.str l) ((getR (far d f) l).map V.int) := by
  obtain ⟨sa, Z, h1, h2, h3⟩ := h.ex
  refine ⟨sa f, _, .inl ⟨outV (("" : Str) :: d.evs) sa, .inr f, .inl h1, rfl, (outV_get hf).symm⟩, h2 f hf, fun l => .inl ⟨kvR V.int _, .inr l, .inl (h2 f hf), rfl, ?_⟩⟩
  rw [valV_kvR, h3 f hf l]
theorem isSome_int (o : Option Int) : (o.map V.int).isSome = o.isSome := by cases o <;> rfl

end
end Pk

set_option Elab.async false
set_option linter.all false
set_option maxRecDepth 100000
/-! what follows from other rows: the tight steps between two places -/
namespace Pu
open PySem PySem.Spec PyProof.Rows L2
/-! ### what follows from other steps -/
/-- a way along steps -/
inductive Rc (st : List (Str × Str)) (f : Str) : Str → Prop
  | nil : Rc st f f
  | snoc {k l : Str} : Rc st f k → (k, l) ∈ st → Rc st f l
/-- S tells the least sums of R between the places -/
structure ClS (ps : List Str) (S : Str → Str → Option Int) (R : Str → Str → Int → Prop) : Prop where
  d : ∀ f ∈ ps, ∀ l v, S f l = some v ↔ Dist R f l v
  nn : ∀ f l a, R f l a → 0 ≤ a
  rin : ∀ f l a, R f l a → f ∈ ps ∧ l ∈ ps
theorem ClS.self {ps : List Str} {S : Str → Str → Option Int} {R : Str → Str → Int → Prop} (h : ClS ps S R) {f : Str} (hf : f ∈ ps) : S f f = some 0 := (h.d f hf f 0).mpr ⟨.nil, fun _ hw => hw.nn h.nn⟩
theorem ClS.wk {ps : List Str} {S : Str → Str → Option Int} {R : Str → Str → Int → Prop} (h : ClS ps S R) {f l : Str} (hf : f ∈ ps) {w : Int} (hw : Wk R f l w) : ∃ v, S f l = some v ∧ v ≤ w ∧ 0 ≤ v := by
  obtain ⟨v, hv⟩ := dist_ex h.nn w.toNat (Int.self_le_toNat w) hw
  exact ⟨v, (h.d f hf l v).mpr hv, hv.2 _ hw, hv.1.nn h.nn⟩
theorem ClS.of {ps : List Str} {S : Str → Str → Option Int} {R : Str → Str → Int → Prop} (h : ClS ps S R) {f l : Str} (hf : f ∈ ps) {v : Int} (hv : S f l = some v) : Wk R f l v ∧ ∀ w, Wk R f l w → v ≤ w := (h.d f hf l v).mp hv
theorem ClS.tri {ps : List Str} {S : Str → Str → Option Int} {R : Str → Str → Int → Prop} (h : ClS ps S R) {f k l : Str} (hf : f ∈ ps) (hk : k ∈ ps) {a b : Int} (h1 : S f k = some a) (h2 : S k l = some b) : ∃ v, S f l = some v ∧ v ≤ a + b ∧ 0 ≤ v :=
  h.wk hf ((h.of hf h1).1.app (h.of hk h2).1)
def tightB (S : Str → Str → Option Int) (tie r : LRow) : Bool := match S tie.1 r.1, S r.2.1 tie.2.1 with
  | some a, some b => decide (a + r.2.2 + b = tie.2.2)
  | _, _ => false
def tights (S : Str → Str → Option Int) (tie : LRow) (rs : List LRow) : List (Str × Str) := (rs.filter (tightB S tie)).map fun r => (r.1, r.2.1)
def roundB (S : Str → Str → Option Int) (tie : LRow) (p : Str) : Bool := match S tie.1 p, S p tie.2.1 with
  | some a, some b => decide (p ≠ tie.1 ∧ p ≠ tie.2.1) && decide (a + b = tie.2.2)
  | _, _ => false
theorem mem_tights {S : Str → Str → Option Int} {tie : LRow} {rs : List LRow} {x y : Str} : (x, y) ∈ tights S tie rs ↔ ∃ b, (x, y, b) ∈ rs ∧ tightB S tie (x, y, b) = true := by
  unfold tights
  rw [List.mem_map]
  constructor
  · rintro ⟨⟨a, b, c⟩, hr, e⟩
    cases e
    obtain ⟨h1, h2⟩ := List.mem_filter.mp hr
    exact ⟨c, h1, h2⟩
  · rintro ⟨b, h1, h2⟩
    exact ⟨(x, y, b), List.mem_filter.mpr ⟨h1, h2⟩, rfl⟩
theorem tight_some {S : Str → Str → Option Int} {tie r : LRow} (h : tightB S tie r = true) : ∃ a b, S tie.1 r.1 = some a ∧ S r.2.1 tie.2.1 = some b ∧ a + r.2.2 + b = tie.2.2 := by
  unfold tightB at h
  split at h
  · rename_i a b h1 h2
    exact ⟨a, b, h1, h2, of_decide_eq_true h⟩
  · cases h
/-- what the rows of a plan and one tie more are -/
structure FolOk (ps : List Str) (S : Str → Str → Option Int) (R : Str → Str → Int → Prop) (others : List LRow) (tie : LRow) : Prop where
  cl : ClS ps S R
  hR : ∀ f l a, R f l a ↔ (f, l, a) ∈ others ∨ (f, l, a) = tie
  ne : tie.1 = tie.2.1 → 0 < tie.2.2
theorem FolOk.tin {ps : List Str} {S : Str → Str → Option Int} {R : Str → Str → Int → Prop} {others : List LRow} {tie : LRow} (h : FolOk ps S R others tie) : tie.1 ∈ ps ∧ tie.2.1 ∈ ps ∧ 0 ≤ tie.2.2 := by
  have r : R tie.1 tie.2.1 tie.2.2 := (h.hR _ _ _).mpr (.inr rfl)
  exact ⟨(h.cl.rin _ _ _ r).1, (h.cl.rin _ _ _ r).2, h.cl.nn _ _ _ r⟩
theorem FolOk.lag {ps : List Str} {S : Str → Str → Option Int} {R : Str → Str → Int → Prop} {others : List LRow} {tie : LRow} (h : FolOk ps S R others tie) : ∃ v, S tie.1 tie.2.1 = some v ∧ v ≤ tie.2.2 := by
  obtain ⟨v, h1, h2, _⟩ := h.cl.wk h.tin.1 (.one ((h.hR _ _ _).mpr (.inr rfl)))
  exact ⟨v, h1, h2⟩
/-- a walk with the tie in it is as long as the tie, or one without it -/
theorem split_tie {R : Str → Str → Int → Prop} {others : List LRow} {tie : LRow} (hR : ∀ f l a, R f l a ↔ (f, l, a) ∈ others ∨ (f, l, a) = tie) (nn : ∀ f l a, R f l a → 0 ≤ a) {f l : Str} {w : Int} (h : Wk R f l w) : Wk (RowL others) f l w ∨ tie.2.2 ≤ w := by
  induction h with
  | nil => exact .inl .nil
  | @snoc k l a b hk r ih =>
    have hb := nn _ _ _ r
    have ha := hk.nn nn
    rcases (hR _ _ _).mp r with r | r
    · rcases ih with ih | ih
      · exact .inl (ih.snoc r)
      · exact .inr (by omega)
    · right
      have : b = tie.2.2 := by rw [← r]
      omega
theorem rc_sum {ps : List Str} {S : Str → Str → Option Int} {R : Str → Str → Int → Prop} {others : List LRow} {tie : LRow} (h : FolOk ps S R others tie) (hl : S tie.1 tie.2.1 = some tie.2.2) {x : Str} (hx : Rc (tights S tie others) tie.1 x) : ∃ a b, S tie.1 x = some a ∧ S x tie.2.1 = some b ∧ a + b = tie.2.2 ∧ Wk (RowL others) tie.1 x a := by
  have tin := h.tin
  induction hx with
  | nil => exact ⟨0, _, h.cl.self tin.1, hl, Int.zero_add _, .nil⟩
  | @snoc k l hk r ih =>
    obtain ⟨a, b, h1, h2, h3, h4⟩ := ih
    obtain ⟨c, hc, ht⟩ := mem_tights.mp r
    obtain ⟨a', b', t1, t2, t3⟩ := tight_some ht
    have t1 : S tie.1 k = some a' := t1
    have t2 : S l tie.2.1 = some b' := t2
    have t3 : a' + c + b' = tie.2.2 := t3
    rw [h1] at t1
    cases t1
    have rr : R k l c := (h.hR _ _ _).mpr (.inl hc)
    obtain ⟨v, hv, hle, _⟩ := h.cl.wk tin.1 ((h.cl.of tin.1 h1).1.snoc rr)
    obtain ⟨u, hu, hle2, _⟩ := h.cl.tri tin.1 (h.cl.rin _ _ _ rr).2 hv t2
    rw [hl] at hu
    cases hu
    have e : v = a + c := by omega
    rw [e] at hv
    exact ⟨a + c, b', hv, t2, by omega, h4.snoc hc⟩
/-- the nodes of a walk that bars just as much are on tight steps -/
theorem wk_tight {ps : List Str} {S : Str → Str → Option Int} {R : Str → Str → Int → Prop} {others : List LRow} {tie : LRow} (h : FolOk ps S R others tie) (hl : S tie.1 tie.2.1 = some tie.2.2) {x : Str} {w : Int} (hw : Wk (RowL others) tie.1 x w) : ∀ {b : Int}, S x tie.2.1 = some b → w + b = tie.2.2 →
    Rc (tights S tie others) tie.1 x ∧ (x = tie.1 ∨ (∃ p, roundB S tie p = true) ∨ (x ≠ tie.2.1 ∧ roundB S tie x = true) ∨ (x = tie.2.1 ∧ (tie.1, tie.2.1, w) ∈ others) ∨ tie.1 = tie.2.1) := by
  have tin := h.tin
  have nn := h.cl.nn
  induction hw with
  | nil => intro b _ _; exact ⟨.nil, .inl rfl⟩
  | @snoc k l a c hk r ih =>
    intro b hb hsum
    have r : (k, l, c) ∈ others := r
    have rr : R k l c := (h.hR _ _ _).mpr (.inl r)
    have hc := nn _ _ _ rr
    have hkin := (h.cl.rin _ _ _ rr).1
    have hlin := (h.cl.rin _ _ _ rr).2
    -- k to the end: at most c + b, at least what is left
    obtain ⟨v, hv, hle, _⟩ := h.cl.wk hkin ((Wk.one (R := R) rr).app (h.cl.of hlin hb).1)
    have hkR : Wk R tie.1 k a := hk.imp fun f l a z => (h.hR _ _ _).mpr (.inl z)
    have hge := (h.cl.of tin.1 hl).2 _ (hkR.app (h.cl.of hkin hv).1)
    have hv2 : v = c + b := by omega
    rw [hv2] at hv
    obtain ⟨hrc, hor⟩ := ih hv (by omega)
    obtain ⟨u, hu, hle3, _⟩ := h.cl.wk tin.1 hkR
    have hu2 : u = a := by
      have := (h.cl.of tin.1 hl).2 _ ((h.cl.of tin.1 hu).1.app (h.cl.of hkin hv).1)
      omega
    rw [hu2] at hu
    refine ⟨hrc.snoc (mem_tights.mpr ⟨c, r, ?_⟩), ?_⟩
    · unfold tightB
      show (match S tie.1 k, S l tie.2.1 with | some a, some b => decide (a + c + b = tie.2.2) | _, _ => false) = true
      rw [hu, hb]
      exact decide_eq_true hsum
    · by_cases e0 : tie.1 = tie.2.1
      · exact .inr (.inr (.inr (.inr e0)))
      rcases hor with hor | hor | hor | hor | hor
      · by_cases e1 : l = tie.1
        · exact .inl e1
        by_cases e2 : l = tie.2.1
        · refine .inr (.inr (.inr (.inl ⟨e2, ?_⟩)))
          rw [hor] at r hu
          rw [h.cl.self tin.1] at hu
          cases hu
          rw [e2] at r
          rw [Int.zero_add]
          exact r
        · refine .inr (.inl ⟨l, ?_⟩)
          have hlR : Wk R tie.1 l (a + c) := hkR.snoc rr
          obtain ⟨y, hy, hle4, _⟩ := h.cl.wk tin.1 hlR
          have hy2 : y = a + c := by
            have := (h.cl.of tin.1 hl).2 _ ((h.cl.of tin.1 hy).1.app (h.cl.of hlin hb).1)
            omega
          unfold roundB
          rw [hy, hb]
          show (decide (l ≠ tie.1 ∧ l ≠ tie.2.1) && decide (y + b = tie.2.2)) = true
          rw [decide_eq_true (And.intro e1 e2), decide_eq_true (by omega)]
          rfl
      · exact .inr (.inl hor)
      · exact .inr (.inl ⟨k, hor.2⟩)
      · obtain ⟨rfl, hm⟩ := hor
        by_cases e1 : l = tie.1
        · exact .inl e1
        by_cases e2 : l = tie.2.1
        · have hb0 : b = 0 := by
            rw [e2, h.cl.self tin.2.1] at hb
            cases hb
            rfl
          refine .inr (.inr (.inr (.inl ⟨e2, ?_⟩)))
          have hv3 := h.cl.self hkin
          rw [hv3] at hv
          have : c + b = 0 := (Option.some.inj hv).symm
          have hc0 : c = 0 := by omega
          rw [hc0, Int.add_zero]
          exact hm
        · refine .inr (.inl ⟨l, ?_⟩)
          have hlR : Wk R tie.1 l (a + c) := hkR.snoc rr
          obtain ⟨y, hy, hle4, _⟩ := h.cl.wk tin.1 hlR
          have hy2 : y = a + c := by
            have := (h.cl.of tin.1 hl).2 _ ((h.cl.of tin.1 hy).1.app (h.cl.of hlin hb).1)
            omega
          unfold roundB
          rw [hy, hb]
          show (decide (l ≠ tie.1 ∧ l ≠ tie.2.1) && decide (y + b = tie.2.2)) = true
          rw [decide_eq_true (And.intro e1 e2), decide_eq_true (by omega)]
          rfl
      · exact absurd hor e0
open Classical in
/-- a tie follows from other rows -/
noncomputable def fol (others : List LRow) (tie : LRow) : Bool := decide (∃ w, w ≤ tie.2.2 ∧ Wk (RowL others) tie.1 tie.2.1 w)
theorem fol_iff {others : List LRow} {tie : LRow} : fol others tie = true ↔ ∃ w, w ≤ tie.2.2 ∧ Wk (RowL others) tie.1 tie.2.1 w := by
  unfold fol
  exact @decide_eq_true_iff _ (Classical.propDecidable _)
/-- the program's way to tell it -/
theorem fol_lt {ps : List Str} {S : Str → Str → Option Int} {R : Str → Str → Int → Prop} {others : List LRow} {tie : LRow} (h : FolOk ps S R others tie) {v : Int} (hv : S tie.1 tie.2.1 = some v) (hlt : v < tie.2.2) : fol others tie = true := by
  rw [fol_iff]
  rcases split_tie h.hR h.cl.nn (h.cl.of h.tin.1 hv).1 with q | q
  · exact ⟨v, by omega, q⟩
  · omega
theorem fol_in {others : List LRow} {tie : LRow} (h : tie ∈ others) : fol others tie = true := fol_iff.mpr ⟨_, Int.le_refl _, .one h⟩
theorem fol_rc {ps : List Str} {S : Str → Str → Option Int} {R : Str → Str → Int → Prop} {others : List LRow} {tie : LRow} (h : FolOk ps S R others tie) (hl : S tie.1 tie.2.1 = some tie.2.2) (hr : Rc (tights S tie others) tie.1 tie.2.1) : fol others tie = true := by
  obtain ⟨a, b, h1, h2, h3, h4⟩ := rc_sum h hl hr
  rw [fol_iff]
  rw [hl] at h1
  cases h1
  exact ⟨_, Int.le_refl _, h4⟩
theorem fol_way {ps : List Str} {S : Str → Str → Option Int} {R : Str → Str → Int → Prop} {others : List LRow} {tie : LRow} (h : FolOk ps S R others tie) (hl : S tie.1 tie.2.1 = some tie.2.2) (hn : tie ∉ others) (hf : fol others tie = true) : (∃ p, roundB S tie p = true) ∧ Rc (tights S tie others) tie.1 tie.2.1 := by
  obtain ⟨w, hw, hwk⟩ := fol_iff.mp hf
  have hwR : Wk R tie.1 tie.2.1 w := hwk.imp fun f l a z => (h.hR _ _ _).mpr (.inl z)
  have hge := (h.cl.of h.tin.1 hl).2 _ hwR
  have e : w = tie.2.2 := by omega
  have hself := h.cl.self h.tin.2.1
  have e0 : tie.1 ≠ tie.2.1 := fun z => by
    have := h.ne z
    rw [z, hself] at hl
    have := Option.some.inj hl
    omega
  obtain ⟨h1, h2⟩ := wk_tight h hl hwk (b := 0) hself (by omega)
  refine ⟨?_, h1⟩
  rcases h2 with q | q | q | q | q
  · exact absurd q.symm e0
  · exact q
  · exact absurd rfl q.1
  · refine absurd ?_ hn
    have := q.2
    rw [e] at this
    exact this
  · exact absurd q e0
end Pu

set_option Elab.async false
set_option linter.all false
set_option maxRecDepth 100000
/-! ties that stay where needless ones are left out, and the plan of closed sums -/
namespace Pu
open PySem PySem.Spec PyProof.Rows L2
/-! ### ties that stay -/
def pick (ties : List LRow) (st : List Nat) : List LRow := st.filterMap fun i => ties[i]?
theorem mem_pick {ties : List LRow} {st : List Nat} {t : LRow} : t ∈ pick ties st ↔ ∃ i ∈ st, ties[i]? = some t := by
  unfold pick
  rw [List.mem_filterMap]
noncomputable def stN (ties free : List LRow) : Nat → List Nat
  | 0 => List.range ties.length
  | j + 1 => match ties[ties.length - 1 - j]? with
    | some t => if fol (pick ties ((stN ties free j).filter fun i => decide (i ≠ ties.length - 1 - j)) ++ free) t = true then (stN ties free j).filter fun i => decide (i ≠ ties.length - 1 - j) else stN ties free j
    | none => stN ties free j
def Cov (R R' : Str → Str → Int → Prop) : Prop := ∀ f l a, R f l a → ∃ w, w ≤ a ∧ Wk R' f l w
theorem Cov.wk {R R' : Str → Str → Int → Prop} (h : Cov R R') {f l : Str} {w : Int} (hw : Wk R f l w) : ∃ u, u ≤ w ∧ Wk R' f l u := by
  induction hw with
  | nil => exact ⟨0, Int.le_refl _, .nil⟩
  | snoc _ r ih =>
    obtain ⟨u, hu, hk⟩ := ih
    obtain ⟨v, hv, hk2⟩ := h _ _ _ r
    exact ⟨u + v, by omega, hk.app hk2⟩
theorem ClS.sub {ps : List Str} {S : Str → Str → Option Int} {R R' : Str → Str → Int → Prop} (h : ClS ps S R) (hs : ∀ f l a, R' f l a → R f l a) (c : Cov R R') : ClS ps S R' := by
  refine ⟨fun f hf l v => ?_, fun f l a r => h.nn _ _ _ (hs _ _ _ r), fun f l a r => h.rin _ _ _ (hs _ _ _ r)⟩
  rw [h.d f hf l v]
  constructor
  · rintro ⟨h1, h2⟩
    obtain ⟨u, hu, hk⟩ := c.wk h1
    have := h2 _ (hk.imp hs)
    have e : u = v := by omega
    exact ⟨e ▸ hk, fun w hw => h2 w (hw.imp hs)⟩
  · rintro ⟨h1, h2⟩
    refine ⟨h1.imp hs, fun w hw => ?_⟩
    obtain ⟨u, hu, hk⟩ := c.wk hw
    have := h2 u hk
    omega
theorem fol_mono {a b : List LRow} {t : LRow} (h : ∀ x ∈ a, x ∈ b) (hf : fol a t = true) : fol b t = true := by
  rw [fol_iff] at *
  obtain ⟨w, hw, hk⟩ := hf
  exact ⟨w, hw, hk.imp fun f l a r => h _ r⟩
structure StOk (ties free : List LRow) (j : Nat) : Prop where
  nd : (stN ties free j).Nodup
  lt : ∀ i ∈ stN ties free j, i < ties.length
  rest : ∀ i, i < ties.length - j → i ∈ stN ties free j
  cov : Cov (RowL (ties ++ free)) (RowL (pick ties (stN ties free j) ++ free))
  keep : ∀ i ∈ stN ties free j, ties.length - j ≤ i → ∀ t, ties[i]? = some t → fol (pick ties ((stN ties free j).filter fun k => decide (k ≠ i)) ++ free) t = false
theorem mem_pickF {ties free : List LRow} {st : List Nat} {p : Nat → Bool} {t : LRow} (h : t ∈ pick ties (st.filter p) ++ free) : t ∈ pick ties st ++ free := by
  rcases List.mem_append.mp h with h | h
  · obtain ⟨i, hi, e⟩ := mem_pick.mp h
    exact List.mem_append_left _ (mem_pick.mpr ⟨i, (List.mem_filter.mp hi).1, e⟩)
  · exact List.mem_append_right _ h
theorem mem_pickN {ties free : List LRow} {st : List Nat} {i : Nat} {t x : LRow} (ht : ties[i]? = some t) (h : x ∈ pick ties st ++ free) : x ∈ pick ties (st.filter fun k => decide (k ≠ i)) ++ free ∨ x = t := by
  rcases List.mem_append.mp h with h | h
  · obtain ⟨k, hk, e⟩ := mem_pick.mp h
    by_cases z : k = i
    · rw [z, ht] at e
      exact .inr (Option.some.inj e).symm
    · exact .inl (List.mem_append_left _ (mem_pick.mpr ⟨k, List.mem_filter.mpr ⟨hk, decide_eq_true z⟩, e⟩))
  · exact .inl (List.mem_append_right _ h)
theorem pick_all {ties free : List LRow} {t : LRow} (h : t ∈ ties ++ free) : t ∈ pick ties (List.range ties.length) ++ free := by
  rcases List.mem_append.mp h with h | h
  · obtain ⟨i, hi, e⟩ := List.getElem_of_mem h
    exact List.mem_append_left _ (mem_pick.mpr ⟨i, List.mem_range.mpr hi, by rw [List.getElem?_eq_getElem hi, e]⟩)
  · exact List.mem_append_right _ h
theorem st_ok (ties free : List LRow) : ∀ j, j ≤ ties.length → StOk ties free j
  | 0, _ => by
    refine ⟨List.nodup_range, fun i hi => List.mem_range.mp hi, fun i hi => List.mem_range.mpr hi, fun f l a r => ⟨a, Int.le_refl _, .one (pick_all r)⟩, fun i hi hge t ht => ?_⟩
    have : i < ties.length := List.mem_range.mp hi
    omega
  | j + 1, hj => by
    obtain ⟨nd, lt, rest, cov, keep⟩ := st_ok ties free j (by omega)
    have hlt : ties.length - 1 - j < ties.length := by omega
    have ht : ties[ties.length - 1 - j]? = some ties[ties.length - 1 - j] := List.getElem?_eq_getElem hlt
    by_cases hf : fol (pick ties ((stN ties free j).filter fun i => decide (i ≠ ties.length - 1 - j)) ++ free) ties[ties.length - 1 - j] = true
    · have e : stN ties free (j + 1) = (stN ties free j).filter fun i => decide (i ≠ ties.length - 1 - j) := by
        show (match ties[ties.length - 1 - j]? with | some t => _ | none => _) = _
        rw [ht]
        exact if_pos hf
      rw [fol_iff] at hf
      refine ⟨?_, ?_, ?_, ?_, ?_⟩
      · rw [e]; exact nd.filter _
      · rw [e]; exact fun i hi => lt i (List.mem_filter.mp hi).1
      · rw [e]
        intro i hi
        exact List.mem_filter.mpr ⟨rest i (by omega), decide_eq_true (by omega)⟩
      · rw [e]
        intro f l a r
        obtain ⟨w, hw, hk⟩ := cov f l a r
        have c2 : Cov (RowL (pick ties (stN ties free j) ++ free)) (RowL (pick ties ((stN ties free j).filter fun i => decide (i ≠ ties.length - 1 - j)) ++ free)) := fun f l a r => by
          rcases mem_pickN ht r with q | q
          · exact ⟨a, Int.le_refl _, .one q⟩
          · obtain ⟨u, hu, hk⟩ := hf
            rw [← q] at hu hk
            exact ⟨u, hu, hk⟩
        obtain ⟨u, hu, hk2⟩ := c2.wk hk
        exact ⟨u, by omega, hk2⟩
      · rw [e]
        intro i hi hge t hti
        obtain ⟨hi1, hi2⟩ := List.mem_filter.mp hi
        have hi2 := of_decide_eq_true hi2
        have hk := keep i hi1 (by omega) t hti
        refine Bool.eq_false_iff.mpr fun z => ?_
        refine absurd (fol_mono (fun x hx => ?_) z) (by rw [hk]; decide)
        rcases List.mem_append.mp hx with hx | hx
        · obtain ⟨k, hk1, hk2⟩ := mem_pick.mp hx
          obtain ⟨a1, a2⟩ := List.mem_filter.mp hk1
          exact List.mem_append_left _ (mem_pick.mpr ⟨k, List.mem_filter.mpr ⟨(List.mem_filter.mp a1).1, a2⟩, hk2⟩)
        · exact List.mem_append_right _ hx
    · have e : stN ties free (j + 1) = stN ties free j := by
        show (match ties[ties.length - 1 - j]? with | some t => _ | none => _) = _
        rw [ht]
        exact if_neg hf
      refine ⟨by rw [e]; exact nd, by rw [e]; exact lt, fun i hi => by rw [e]; exact rest i (by omega), by rw [e]; exact cov, ?_⟩
      rw [e]
      intro i hi hge t hti
      by_cases z : i = ties.length - 1 - j
      · subst z
        rw [ht] at hti
        cases hti
        exact Bool.eq_false_iff.mpr hf
      · exact keep i hi (by omega) t hti
theorem st_fol {ps : List Str} {S : Str → Str → Option Int} {ties free : List LRow} (hS : ClS ps S (RowL (ties ++ free))) (hne : ∀ t ∈ ties, t.1 = t.2.1 → 0 < t.2.2) {j : Nat} (hj : j < ties.length) {t : LRow} (ht : ties[ties.length - 1 - j]? = some t) :
    FolOk ps S (RowL (pick ties (stN ties free j) ++ free)) (pick ties ((stN ties free j).filter fun i => decide (i ≠ ties.length - 1 - j)) ++ free) t := by
  have h := st_ok ties free j (by omega)
  refine ⟨hS.sub (fun f l a r => ?_) h.cov, fun f l a => ⟨fun r => mem_pickN ht r, fun r => ?_⟩, hne t (List.mem_of_getElem? ht)⟩
  · rcases List.mem_append.mp r with r | r
    · obtain ⟨i, _, e⟩ := mem_pick.mp r
      exact List.mem_append_left _ (List.mem_of_getElem? e)
    · exact List.mem_append_right _ r
  · rcases r with r | r
    · exact mem_pickF r
    · rw [show RowL (pick ties (stN ties free j) ++ free) f l a = ((f, l, a) ∈ pick ties (stN ties free j) ++ free) from rfl, r]
      exact List.mem_append_left _ (mem_pick.mpr ⟨_, h.rest _ (by omega), ht⟩)
/-! ### the plan of closed sums -/
section
variable {o : Str}
structure ClP (o : Str) (evs : List Str) (S : Str → Str → Option Int) : Prop where
  no : o ∉ evs
  nd : evs.Nodup
  dom : ∀ f ∈ o :: evs, ∀ l v, S f l = some v → l ∈ o :: evs ∧ 0 ≤ v
  self : ∀ f ∈ o :: evs, S f f = some 0
  tri : ∀ f ∈ o :: evs, ∀ k ∈ o :: evs, ∀ l a b, S f k = some a → S k l = some b → ∃ v, S f l = some v ∧ v ≤ a + b
  back : ∀ e ∈ evs, S e o = some 0
  noz : ∀ e ∈ evs, ∀ l ∈ evs, e ≠ l → S e l = some 0 → S l e = some 0 → S o e = some 0
def pairsOf (evs : List Str) : List (Str × Str) := evs.flatMap fun e => (evs.filter fun l => decide (e ≠ l)).map fun l => (e, l)
def toldOf (evs : List Str) (S : Str → Str → Option Int) : List LRow := (pairsOf evs).filterMap fun p => (S p.1 p.2).map fun v => (p.1, p.2, v)
def aboveB (g : Option Int) (b : Int) : Bool := match g with
  | none => true
  | some v => decide (b < v)
def tiesOf (o : Str) (evs : List Str) (S : Str → Str → Option Int) : List LRow := (toldOf evs S).filter fun t => aboveB (S o t.2.1) t.2.2
def capsOf (o : Str) (evs : List Str) (S : Str → Str → Option Int) : List (Str × Int) := evs.filterMap fun e => (S o e).map fun v => (e, v)
def freeR (o : Str) (evs : List Str) (caps : List (Str × Int)) : List LRow := caps.map (fun c => (o, c.1, c.2)) ++ evs.map fun e => (e, o, (0 : Int))
theorem mem_pairs {evs : List Str} {e l : Str} : (e, l) ∈ pairsOf evs ↔ e ∈ evs ∧ l ∈ evs ∧ e ≠ l := by
  unfold pairsOf
  rw [List.mem_flatMap]
  constructor
  · rintro ⟨x, hx, h⟩
    obtain ⟨y, hy, q⟩ := List.mem_map.mp h
    cases q
    obtain ⟨h1, h2⟩ := List.mem_filter.mp hy
    exact ⟨hx, h1, of_decide_eq_true h2⟩
  · rintro ⟨h1, h2, h3⟩
    exact ⟨e, h1, List.mem_map.mpr ⟨l, List.mem_filter.mpr ⟨h2, decide_eq_true h3⟩, rfl⟩⟩
theorem mem_told {evs : List Str} {S : Str → Str → Option Int} {e l : Str} {v : Int} : (e, l, v) ∈ toldOf evs S ↔ e ∈ evs ∧ l ∈ evs ∧ e ≠ l ∧ S e l = some v := by
  unfold toldOf
  rw [List.mem_filterMap]
  constructor
  · rintro ⟨⟨x, y⟩, hp, h⟩
    obtain ⟨h1, h2, h3⟩ := mem_pairs.mp hp
    have h : (S x y).map (fun v => (x, y, v)) = some (e, l, v) := h
    cases q : S x y with
    | none => rw [q] at h; cases h
    | some u =>
      rw [q] at h
      cases h
      exact ⟨h1, h2, h3, q⟩
  · rintro ⟨h1, h2, h3, h4⟩
    exact ⟨(e, l), mem_pairs.mpr ⟨h1, h2, h3⟩, by show (S e l).map (fun v => (e, l, v)) = _; rw [h4]; rfl⟩
theorem mem_capsO {evs : List Str} {S : Str → Str → Option Int} {e : Str} {v : Int} : (e, v) ∈ capsOf o evs S ↔ e ∈ evs ∧ S o e = some v := by
  unfold capsOf
  rw [List.mem_filterMap]
  constructor
  · rintro ⟨x, hx, h⟩
    cases q : S o x with
    | none => rw [q] at h; cases h
    | some u =>
      rw [q] at h
      cases h
      exact ⟨hx, q⟩
  · rintro ⟨h1, h2⟩
    exact ⟨e, h1, by rw [h2]; rfl⟩
theorem mem_free {evs : List Str} {S : Str → Str → Option Int} {f l : Str} {a : Int} : (f, l, a) ∈ freeR o evs (capsOf o evs S) ↔ (f = o ∧ l ∈ evs ∧ S o l = some a) ∨ (f ∈ evs ∧ l = o ∧ a = 0) := by
  unfold freeR
  rw [List.mem_append, List.mem_map, List.mem_map]
  constructor
  · rintro (⟨⟨x, v⟩, h, e⟩ | ⟨x, h, e⟩)
    · cases e
      exact .inl ⟨rfl, mem_capsO.mp h⟩
    · cases e
      exact .inr ⟨h, rfl, rfl⟩
  · rintro (⟨rfl, h1, h2⟩ | ⟨h1, rfl, rfl⟩)
    · exact .inl ⟨(l, a), mem_capsO.mpr ⟨h1, h2⟩, rfl⟩
    · exact .inr ⟨f, h1, rfl⟩
theorem mem_ties {evs : List Str} {S : Str → Str → Option Int} {e l : Str} {v : Int} : (e, l, v) ∈ tiesOf o evs S ↔ (e ∈ evs ∧ l ∈ evs ∧ e ≠ l ∧ S e l = some v) ∧ aboveB (S o l) v = true := by
  unfold tiesOf
  rw [List.mem_filter, mem_told]
theorem rows_le {evs : List Str} {S : Str → Str → Option Int} (h : ClP o evs S) {f l : Str} {a : Int} (hr : (f, l, a) ∈ tiesOf o evs S ++ freeR o evs (capsOf o evs S)) : S f l = some a ∧ f ∈ o :: evs ∧ l ∈ o :: evs := by
  rcases List.mem_append.mp hr with hr | hr
  · obtain ⟨⟨h1, h2, _, h4⟩, _⟩ := mem_ties.mp hr
    exact ⟨h4, List.mem_cons_of_mem _ h1, List.mem_cons_of_mem _ h2⟩
  · rcases mem_free.mp hr with ⟨rfl, h1, h2⟩ | ⟨h1, rfl, rfl⟩
    · exact ⟨h2, List.mem_cons_self .., List.mem_cons_of_mem _ h1⟩
    · exact ⟨h.back f h1, List.mem_cons_of_mem _ h1, List.mem_cons_self ..⟩
theorem rows_cl {evs : List Str} {S : Str → Str → Option Int} (h : ClP o evs S) : ClS (o :: evs) S (RowL (tiesOf o evs S ++ freeR o evs (capsOf o evs S))) := by
  have up : ∀ f ∈ o :: evs, ∀ {l : Str} {w : Int}, Wk (RowL (tiesOf o evs S ++ freeR o evs (capsOf o evs S))) f l w → ∃ v, S f l = some v ∧ v ≤ w := by
    intro f hf l w hw
    induction hw with
    | nil => exact ⟨0, h.self f hf, Int.le_refl _⟩
    | @snoc k l a b _ r ih =>
      obtain ⟨u, hu, hle⟩ := ih
      obtain ⟨h1, h2, h3⟩ := rows_le h r
      obtain ⟨v, hv, hl2⟩ := h.tri f hf k h2 l u b hu h1
      exact ⟨v, hv, by omega⟩
  have dn : ∀ f ∈ o :: evs, ∀ l v, S f l = some v → Wk (RowL (tiesOf o evs S ++ freeR o evs (capsOf o evs S))) f l v := by
    intro f hf l v hv
    obtain ⟨hl, h0⟩ := h.dom f hf l v hv
    by_cases e : f = l
    · subst e
      rw [h.self f hf] at hv
      cases hv
      exact .nil
    rcases List.mem_cons.mp hf with rfl | hfe
    · rcases List.mem_cons.mp hl with rfl | hl
      · exact absurd rfl e
      · exact .one (List.mem_append_right _ (mem_free.mpr (.inl ⟨rfl, hl, hv⟩)))
    · rcases List.mem_cons.mp hl with rfl | hl
      · rw [h.back f hfe] at hv
        cases hv
        exact .one (List.mem_append_right _ (mem_free.mpr (.inr ⟨hfe, rfl, rfl⟩)))
      · cases ha : aboveB (S o l) v with
        | true => exact .one (List.mem_append_left _ (mem_ties.mpr ⟨⟨hfe, hl, e, hv⟩, ha⟩))
        | false =>
          cases hc : S o l with
          | none => rw [hc] at ha; cases ha
          | some c =>
            rw [hc] at ha
            have hcv : c ≤ v := by
              have := of_decide_eq_false ha
              omega
            have w1 : Wk (RowL (tiesOf o evs S ++ freeR o evs (capsOf o evs S))) f l (0 + c) := (Wk.one (show RowL _ f o 0 from List.mem_append_right _ (mem_free.mpr (.inr ⟨hfe, rfl, rfl⟩)))).snoc (List.mem_append_right _ (mem_free.mpr (.inl ⟨rfl, hl, hc⟩)))
            obtain ⟨u, hu, hle⟩ := up f hf w1
            rw [hv] at hu
            cases hu
            have : v = 0 + c := by omega
            rw [this]
            exact w1
  refine ⟨fun f hf l v => ⟨fun hv => ⟨dn f hf l v hv, fun w hw => ?_⟩, fun hd => ?_⟩, fun f l a r => ?_, fun f l a r => (rows_le h r).2⟩
  · obtain ⟨u, hu, hle⟩ := up f hf hw
    rw [hv] at hu
    cases hu
    exact hle
  · obtain ⟨u, hu, hle⟩ := up f hf hd.1
    have := hd.2 u (dn f hf l u hu)
    rw [hu]
    exact congrArg some (by omega)
  · obtain ⟨h1, h2, h3⟩ := rows_le h r
    exact (h.dom f h2 l a h1).2
theorem ties_ne {evs : List Str} {S : Str → Str → Option Int} : ∀ t ∈ tiesOf o evs S, t.1 ≠ t.2.1 := by
  rintro ⟨e, l, v⟩ ht
  exact (mem_ties.mp ht).1.2.2.1
/-- no ring of ties with the lag 0 -/
theorem ties_up {evs : List Str} {S : Str → Str → Option Int} (h : ClP o evs S) : ∃ ρ : Str → Nat, ∀ t ∈ tiesOf o evs S, t.2.2 = 0 → ρ t.1 < ρ t.2.1 := by
  refine ⟨fun x => (evs.filter fun y => decide (S y x = some 0)).length, ?_⟩
  rintro ⟨e, l, v⟩ ht hv
  have hv : v = 0 := hv
  subst hv
  obtain ⟨⟨he, hl, hne, hs⟩, ha⟩ := mem_ties.mp ht
  have mc : ∀ {x}, x ∈ evs → x ∈ o :: evs := fun h => List.mem_cons_of_mem _ h
  show (evs.filter fun y => decide (S y e = some 0)).length < (evs.filter fun y => decide (S y l = some 0)).length
  refine filter_lt (fun y hy hz => ?_) ⟨l, hl, ?_, decide_eq_true (h.self l (mc hl))⟩
  · have hz := of_decide_eq_true hz
    obtain ⟨u, hu, hle⟩ := h.tri y (mc hy) e (mc he) l 0 0 hz hs
    have := (h.dom y (mc hy) l u hu).2
    have e0 : u = 0 := by omega
    rw [e0] at hu
    exact decide_eq_true hu
  · refine decide_eq_false fun z => ?_
    have hz := h.noz e he l hl hne hs z
    obtain ⟨u, hu, hle⟩ := h.tri o (List.mem_cons_self ..) e (mc he) l 0 0 hz hs
    have hu0 := (h.dom o (List.mem_cons_self ..) l u hu).2
    rw [hu] at ha
    have ha : 0 < u := of_decide_eq_true ha
    omega
theorem pairs_len : ∀ {evs : List Str}, evs.Nodup → (pairsOf evs).length ≤ evs.length * (evs.length - 1) := by
  intro evs nd
  have h1 : ∀ e ∈ evs, (evs.filter fun l => decide (e ≠ l)).length ≤ evs.length - 1 := fun e he => by
    have : (evs.filter fun l => decide (e ≠ l)).length < evs.length := List.length_filter_lt_length_iff_exists.mpr ⟨e, he, by simp⟩
    omega
  have h2 : ∀ xs : List Str, (∀ x ∈ xs, x ∈ evs) → (xs.flatMap fun e => (evs.filter fun l => decide (e ≠ l)).map fun l => (e, l)).length ≤ xs.length * (evs.length - 1) := by
    intro xs
    induction xs with
    | nil => intro _; simp
    | cons x xs ih =>
      intro hx
      rw [List.flatMap_cons, List.length_append, List.length_map, List.length_cons, Nat.succ_mul]
      have := ih fun y hy => hx y (List.mem_cons_of_mem _ hy)
      have := h1 x (hx x (List.mem_cons_self ..))
      omega
  exact h2 evs fun _ h => h
theorem ties_len {evs : List Str} {S : Str → Str → Option Int} (nd : evs.Nodup) (h8 : evs.length ≤ 8) : (toldOf evs S).length ≤ 56 ∧ (tiesOf o evs S).length ≤ 56 := by
  have h1 := pairs_len nd
  have h2 : evs.length * (evs.length - 1) ≤ 8 * 7 := Nat.mul_le_mul h8 (by omega)
  have h3 : (toldOf evs S).length ≤ (pairsOf evs).length := List.length_filterMap_le ..
  have h4 : (tiesOf o evs S).length ≤ (toldOf evs S).length := List.length_filter_le ..
  omega
noncomputable def stayT (o : Str) (evs : List Str) (S : Str → Str → Option Int) : List Nat := stN (tiesOf o evs S) (freeR o evs (capsOf o evs S)) (tiesOf o evs S).length
theorem stay_cl {evs : List Str} {S : Str → Str → Option Int} (h : ClP o evs S) : ClS (o :: evs) S (RowL (pick (tiesOf o evs S) (stayT o evs S) ++ freeR o evs (capsOf o evs S))) := by
  refine (rows_cl h).sub (fun f l a r => ?_) (st_ok _ _ _ (Nat.le_refl _)).cov
  rcases List.mem_append.mp r with r | r
  · obtain ⟨i, _, e⟩ := mem_pick.mp r
    exact List.mem_append_left _ (List.mem_of_getElem? e)
  · exact List.mem_append_right _ r
theorem pick_len (ties : List LRow) (st : List Nat) : (pick ties st).length ≤ st.length := List.length_filterMap_le ..
theorem pick_get {ties : List LRow} : ∀ {st : List Nat}, (∀ i ∈ st, i < ties.length) → (pick ties st).length = st.length ∧ ∀ (p i : Nat), st[p]? = some i → (pick ties st)[p]? = ties[i]?
  | [], _ => ⟨rfl, fun p i h => by simp at h⟩
  | k :: st, h => by
    have hk : k < ties.length := h k (List.mem_cons_self ..)
    have e : pick ties (k :: st) = ties[k] :: pick ties st := by
      unfold pick
      rw [List.filterMap_cons, List.getElem?_eq_getElem hk]
    obtain ⟨h1, h2⟩ := pick_get (ties := ties) (st := st) fun i hi => h i (List.mem_cons_of_mem _ hi)
    rw [e]
    refine ⟨by rw [List.length_cons, List.length_cons, h1], fun p i hp => ?_⟩
    cases p with
    | zero =>
      have hp : some k = some i := hp
      cases hp
      exact (List.getElem?_eq_getElem hk).symm
    | succ p => exact h2 p i hp
/-- none of the ties that stay follows from all others -/
theorem stay_min {evs : List Str} {S : Str → Str → Option Int} {p : Nat} {t : LRow} (hp : (pick (tiesOf o evs S) (stayT o evs S))[p]? = some t) :
    fol ((pick (tiesOf o evs S) (stayT o evs S)).take p ++ (pick (tiesOf o evs S) (stayT o evs S)).drop (p + 1) ++ freeR o evs (capsOf o evs S)) t = false := by
  have h := st_ok (tiesOf o evs S) (freeR o evs (capsOf o evs S)) _ (Nat.le_refl _)
  obtain ⟨h1, h2⟩ := pick_get h.lt
  have hpl : p < (stayT o evs S).length := by
    have : p < (pick (tiesOf o evs S) (stayT o evs S)).length := (List.getElem?_eq_some_iff.mp hp).1
    unfold stayT at *
    omega
  have hi : (stayT o evs S)[p]? = some (stayT o evs S)[p] := List.getElem?_eq_getElem hpl
  have hti := h2 p _ hi
  have hpt : (pick (tiesOf o evs S) (stN (tiesOf o evs S) (freeR o evs (capsOf o evs S)) (tiesOf o evs S).length))[p]? = some t := hp
  rw [hpt] at hti
  have hk := h.keep _ (List.mem_of_getElem? hi) (by omega) t hti.symm
  refine Bool.eq_false_iff.mpr fun z => absurd (fol_mono (fun x hx => ?_) z) (by rw [hk]; decide)
  have key : ∀ q, q ≠ p → ∀ y, (pick (tiesOf o evs S) (stayT o evs S))[q]? = some y → y ∈ pick (tiesOf o evs S) ((stayT o evs S).filter fun k => decide (k ≠ (stayT o evs S)[p])) ++ freeR o evs (capsOf o evs S) := by
    intro q hq y hy
    have hql : q < (stayT o evs S).length := by
      have : q < (pick (tiesOf o evs S) (stayT o evs S)).length := (List.getElem?_eq_some_iff.mp hy).1
      unfold stayT at *
      omega
    have hiq : (stayT o evs S)[q]? = some (stayT o evs S)[q] := List.getElem?_eq_getElem hql
    have e := h2 q _ hiq
    have hy' : (pick (tiesOf o evs S) (stN (tiesOf o evs S) (freeR o evs (capsOf o evs S)) (tiesOf o evs S).length))[q]? = some y := hy
    rw [hy'] at e
    refine List.mem_append_left _ (mem_pick.mpr ⟨(stayT o evs S)[q], List.mem_filter.mpr ⟨List.getElem_mem hql, decide_eq_true fun z => hq ?_⟩, e.symm⟩)
    exact (List.getElem_inj (h.nd : (stayT o evs S).Nodup)).mp z
  rcases List.mem_append.mp hx with hx | hx
  · rcases List.mem_append.mp hx with hx | hx
    · obtain ⟨q, hq, e⟩ := List.getElem_of_mem hx
      rw [List.getElem_take] at e
      rw [List.length_take] at hq
      exact key q (by omega) x (by rw [← e]; exact List.getElem?_eq_getElem _)
    · obtain ⟨q, hq, e⟩ := List.getElem_of_mem hx
      rw [List.getElem_drop] at e
      exact key (p + 1 + q) (by omega) x (by rw [← e]; exact List.getElem?_eq_getElem _)
  · exact List.mem_append_right _ hx
end
end Pu

set_option Elab.async false
set_option linter.all false
set_option maxRecDepth 100000
set_option maxHeartbeats 4000000
/-! lists of strings that are held against one another; strings of a list of values -/
namespace Pu
open PySem PySem.Spec PyProof.Rows L2
section
variable {K : PySem.W.Frag} {H : Hp}
theorem strs_ansd {n : Nat} : ∀ {es : List Str}, ∃ rs : List Bool, Ansd (EqB K H (n + 1)) (es.map V.str) (es.map V.str) rs ∧ rs.all id = true
  | [] => ⟨[], .nil, rfl⟩
  | e :: r => by
    obtain ⟨rs, h1, h2⟩ := strs_ansd (n := n) (es := r)
    exact ⟨true :: rs, .cons (eqb_refl rfl) h1, by rw [List.all_cons, h2]; rfl⟩
theorem strs_eq {n : Nat} {a b : Addr} {es : List Str} (h : SqL K H a (es.map V.str)) (h' : SqL K H b (es.map V.str)) : RcB K H (EqB K H (n + 1)) (.ref a) (.ref b) true := by
  obtain ⟨rs, h1, h2⟩ := strs_ansd (K := K) (H := H) (n := n) (es := es)
  exact ⟨a, b, rfl, rfl, fun _ => rfl, .inl ⟨_, _, rs, h, h', h1, h2.symm⟩⟩
theorem nil_eq {n : Nat} {a b : Addr} {es : List Str} (h : H a = some (.lst (es.map V.str))) (h' : H b = some (.lst [])) : RcB K H (EqB K H (n + 1)) (.ref a) (.ref b) (decide (es = [])) := by
  cases es with
  | nil => exact ⟨a, b, rfl, rfl, fun _ => rfl, .inl ⟨[], [], [], .inl (.inl h), .inl (.inl h'), .nil, rfl⟩⟩
  | cons e r =>
    refine ⟨a, b, rfl, rfl, fun z => ?_, .inr (.inl ⟨_, _, .inl (.inl h), .inl (.inl h'), ?_, rfl⟩)⟩
    · rw [z, h'] at h
      cases h
    · rw [List.length_map]
      exact fun z => by cases z
theorem strsOf {p : Str → Prop} : ∀ {ys : List V}, (∀ (k : Nat) (y : V), ys[k]? = some y → ∃ e, y = V.str e ∧ p e) → ∃ es : List Str, ys = es.map V.str ∧ ∀ e ∈ es, p e
  | [], _ => ⟨[], rfl, fun _ h => absurd h List.not_mem_nil⟩
  | y :: ys, h => by
    obtain ⟨e, rfl, he⟩ := h 0 y rfl
    obtain ⟨es, rfl, hs⟩ := strsOf (ys := ys) fun k z hz => h (k + 1) z hz
    exact ⟨e :: es, rfl, fun x hx => by
      rcases List.mem_cons.mp hx with rfl | hx
      · exact he
      · exact hs x hx⟩
end
end Pu

set_option Elab.async false
set_option linter.all false
set_option maxRecDepth 100000
/-! where there is no way, there is nothing but the place itself -/
namespace Pu
open PySem PySem.Spec PyProof.Rows L2
def NoWay (ps : List Str) (Z : Str → SR × WR) : Prop := ∀ f ∈ ps, ∀ l v, sOf Z f l = some v → wOf Z f l = none → f = l ∧ v = 0
theorem NoWay.begin {ps : List Str} : NoWay ps beginZ := fun f _ l v h _ => by
  have h : (if f = l then some (0 : Int) else none) = some v := h
  split at h
  · rename_i e
    cases h
    exact ⟨e, rfl⟩
  · cases h
theorem NoWay.row {ps : List Str} {Z : Str → SR × WR} (h : NoWay ps Z) (r : TRow) : NoWay ps (rowZ Z r) := fun f hf l v hs hw => by
  rcases row_key Z r f l with ⟨_, _, _, _, h2⟩ | ⟨h1, h2⟩
  · rw [h2] at hw
    cases hw
  · rw [h1] at hs
    rw [h2] at hw
    exact h f hf l v hs hw
theorem NoWay.rows {ps : List Str} : ∀ {rs : List TRow} {Z : Str → SR × WR}, NoWay ps Z → NoWay ps (rs.foldl rowZ Z)
  | [], _, h => h
  | r :: rs, _, h => NoWay.rows (rs := rs) (h.row r)
theorem NoWay.phase {ps P : List Str} {Z : Str → SR × WR} (h : NoWay ps Z) (I : SInv ps P Z) {m : Str} (hm : m ∈ ps) : NoWay ps (phaseZ m ps Z) := fun f hf l v hs hw => by
  rcases phase_get I hm hf l with ⟨_, _, _, _, _, _, h2⟩ | ⟨_, h1, h2⟩
  · rw [h2] at hw
    cases hw
  · rw [h1] at hs
    rw [h2] at hw
    exact h f hf l v hs hw
theorem close_noway {ps : List Str} (nd : ps.Nodup) {Z : Str → SR × WR} (I : SInv ps [] Z) (h : NoWay ps Z) : ∀ n, n ≤ ps.length → NoWay ps (closeZ ps n Z)
  | 0, _ => h
  | n + 1, hn => by
    have hn : n < ps.length := hn
    have e : ps[n]? = some ps[n] := List.getElem?_eq_getElem hn
    rw [close_step e]
    exact (close_noway nd I h n (Nat.le_of_lt hn)).phase (close_inv nd I n (Nat.le_of_lt hn)) (List.getElem_mem hn)
theorem all_noway {ps : List Str} (nd : ps.Nodup) {rs : List TRow} (h : ∀ r ∈ rs, r.1 ∈ ps ∧ r.2.1 ∈ ps ∧ 0 ≤ r.2.2.1) : NoWay ps (allZ ps rs) :=
  close_noway nd (rows_inv (begin_inv ps) h) (NoWay.rows NoWay.begin) ps.length (Nat.le_refl _)
/-- rows one behind another -/
inductive PPath {α : Type} (R : α → Prop) (b e : α → Str) (a : α → Int) : Str → Str → Int → List α → Prop
  | nil {f : Str} : PPath R b e a f f 0 []
  | cons {f l : Str} {v : Int} {r : α} {rs : List α} : R r → b r = f → PPath R b e a (e r) l v rs → PPath R b e a f l (a r + v) (r :: rs)
theorem PPath.app {α : Type} {R : α → Prop} {b e : α → Str} {a : α → Int} {f m l : Str} {v w : Int} {rs ss : List α} (h : PPath R b e a f m v rs) (h2 : PPath R b e a m l w ss) : PPath R b e a f l (v + w) (rs ++ ss) := by
  induction h with
  | nil => rw [Int.zero_add]; exact h2
  | cons h3 h4 _ ih =>
    rw [Int.add_assoc]
    exact .cons h3 h4 (ih h2)
theorem paired_app {α β : Type} {R : α → β → Prop} {xs xs' : List α} {ys ys' : List β} (h : Paired R xs ys) (h2 : Paired R xs' ys') : Paired R (xs ++ xs') (ys ++ ys') := by
  induction h with
  | nil => exact h2
  | cons r _ ih => exact .cons r ih
/-- the rows of a way make a path that adds up to the sum -/
theorem between_path {α : Type} {R : α → Prop} {b e : α → Str} {a : α → Int} {Q : Addr → α → Prop} {ps : List Str} {Z : Str → SR × WR} (I : SInv ps ps Z) (nw : NoWay ps Z) (hr : ∀ f ∈ ps, ∀ l t, wOf Z f l = some (.inr t) → ∃ r, R r ∧ b r = f ∧ e r = l ∧ sOf Z f l = some (a r) ∧ Q t r) :
    ∀ n, ∀ f ∈ ps, ∀ l v, sOf Z f l = some v → wi ps (wOf Z f l) < n → ∃ rs, Paired Q (between Z n f l) rs ∧ PPath R b e a f l v rs
  | 0, _, _, _, _, _, h => absurd h (Nat.not_lt_zero _)
  | n + 1, f, hf, l, v, hs, hn => by
    cases ho : wOf Z f l with
    | none =>
      obtain ⟨rfl, rfl⟩ := nw f hf l v hs ho
      exact ⟨[], by rw [between_none ho]; exact .nil, .nil⟩
    | some w =>
      cases w with
      | inr t =>
        obtain ⟨r, h1, h2, h3, h4, h5⟩ := hr f hf l t ho
        have e1 : v = a r := Option.some.inj (hs.symm.trans h4)
        refine ⟨[r], by rw [between_row ho]; exact .cons h5 .nil, ?_⟩
        have := PPath.cons (R := R) (b := b) (e := e) (a := a) (v := 0) (rs := []) (l := l) h1 h2 (by rw [h3]; exact .nil)
        rw [Int.add_zero, ← e1] at this
        exact this
      | inl k =>
        obtain ⟨hk, x, y, h1, h2, h3, w1, w2⟩ := I.mid f hf l k ho
        rw [ho] at hn
        have hn : ps.idxOf k + 1 < n + 1 := hn
        obtain ⟨rs, p1, p2⟩ := between_path I nw hr n f hf k x h1 (by omega)
        obtain ⟨ss, q1, q2⟩ := between_path I nw hr n k hk l y h2 (by omega)
        have e1 : v = x + y := Option.some.inj (hs.symm.trans h3)
        exact ⟨rs ++ ss, by rw [between_mid ho]; exact paired_app p1 q1, e1 ▸ p2.app q2⟩
end Pu

set_option Elab.async false
set_option linter.all false
set_option maxRecDepth 100000
set_option maxHeartbeats 4000000
/-! dicts of sums, and dicts of such, that are held against one another; tuples of strings -/
namespace Pu
open PySem PySem.Spec PyProof.Rows L2
theorem keyd_gen {F : V → V → Bool → Prop} {ls : List (Key × V)} (ans : Key → V → Bool) : ∀ {ks : List (Key × V)}, (∀ p ∈ ks, (valV ls p.1 = none ∧ ans p.1 p.2 = false) ∨ ∃ y, valV ls p.1 = some y ∧ F p.2 y (ans p.1 p.2)) → Keyd F ls ks (ks.all fun p => ans p.1 p.2)
  | [], _ => .nil
  | (k, x) :: r, h => by
    have t := keyd_gen ans (ks := r) fun p hp => h p (List.mem_cons_of_mem _ hp)
    rw [List.all_cons]
    rcases h (k, x) (List.mem_cons_self ..) with ⟨h1, h2⟩ | ⟨y, h1, h2⟩
    · have h2 : ans k x = false := h2
      dsimp only
      rw [h2, Bool.false_and]
      exact .miss h1
    · exact .hit h1 h2 t
def sameR (r1 r2 : SR) : Bool := decide (r1.length = r2.length) && r1.all fun c => decide (getR r2 c.1 = some c.2)
theorem getR_iff {r : SR} (nd : (r.map (·.1)).Nodup) {k : Str} {v : Int} : getR r k = some v ↔ (k, v) ∈ r := ⟨getR_mem, getR_nd nd⟩
theorem sameR_iff {r1 r2 : SR} (n1 : (r1.map (·.1)).Nodup) (n2 : (r2.map (·.1)).Nodup) : sameR r1 r2 = true ↔ ∀ l, getR r1 l = getR r2 l := by
  unfold sameR
  rw [Bool.and_eq_true_iff, decide_eq_true_iff, List.all_eq_true]
  constructor
  · rintro ⟨hl, h⟩ l
    have sub : ∀ c ∈ r1, getR r2 c.1 = some c.2 := fun c hc => of_decide_eq_true (h c hc)
    have ks : ∀ k ∈ r2.map (·.1), k ∈ r1.map (·.1) := by
      have hs : ∀ k ∈ r1.map (·.1), k ∈ r2.map (·.1) := fun k hk => by
        obtain ⟨c, hc, rfl⟩ := List.mem_map.mp hk
        exact List.mem_map_of_mem (f := (·.1)) (getR_mem (sub c hc))
      intro k hk
      by_cases z : k ∈ r1.map (·.1)
      · exact z
      · have := nodup_len (xs := k :: r1.map (·.1)) (ys := r2.map (·.1)) (List.nodup_cons.mpr ⟨z, n1⟩) fun x hx => by
          rcases List.mem_cons.mp hx with rfl | hx
          · exact hk
          · exact hs x hx
        rw [List.length_cons, List.length_map, List.length_map] at this
        omega
    refine Option.ext fun v => ?_
    rw [getR_iff n1, getR_iff n2]
    constructor
    · intro h1
      exact (getR_iff n2).mp (sub _ h1)
    · intro h2
      obtain ⟨c, hc, e⟩ := List.mem_map.mp (ks l (List.mem_map_of_mem (f := (·.1)) h2))
      have h3 := sub c hc
      have e : c.1 = l := e
      rw [e, getR_nd n2 h2] at h3
      cases h3
      rw [← e]
      exact hc
  · intro h
    refine ⟨Nat.le_antisymm ?_ ?_, fun c hc => decide_eq_true ?_⟩
    · have := nodup_len n1 (ys := r2.map (·.1)) fun k hk => by
        obtain ⟨c, hc, rfl⟩ := List.mem_map.mp hk
        exact List.mem_map_of_mem (f := (·.1)) (getR_mem ((h c.1).symm.trans (getR_nd n1 hc)))
      rw [List.length_map, List.length_map] at this
      exact this
    · have := nodup_len n2 (ys := r1.map (·.1)) fun k hk => by
        obtain ⟨c, hc, rfl⟩ := List.mem_map.mp hk
        exact List.mem_map_of_mem (f := (·.1)) (getR_mem ((h c.1).trans (getR_nd n2 hc)))
      rw [List.length_map, List.length_map] at this
      exact this
    · rw [← h]
      exact getR_nd n1 hc
theorem kvR_inj {r1 r2 : SR} (h : kvR V.int r1 = kvR V.int r2) : r1 = r2 := by
  induction r1 generalizing r2 with
  | nil =>
    cases r2 with
    | nil => rfl
    | cons c r => cases h
  | cons c r ih =>
    cases r2 with
    | nil => cases h
    | cons c2 r2 =>
      obtain ⟨h1, h2⟩ := List.cons.inj h
      obtain ⟨a, b⟩ := c
      obtain ⟨a2, b2⟩ := c2
      have h1 : ((Sum.inr a : Key), V.int b) = (.inr a2, .int b2) := h1
      cases h1
      rw [ih h2]
section
variable {K : PySem.W.Frag} {H : Hp}
theorem rows_eqB {n : Nat} {a b : Addr} {r1 r2 : SR} (n1 : (r1.map (·.1)).Nodup) (h1 : H a = some (.dK (kvR V.int r1))) (h2 : H b = some (.dK (kvR V.int r2))) : RcB K H (EqB K H (n + 1)) (.ref a) (.ref b) (sameR r1 r2) := by
  refine ⟨a, b, rfl, rfl, fun e => ?_, ?_⟩
  · rw [← e, h1] at h2
    have : r1 = r2 := kvR_inj (by injection h2 with h2; injection h2)
    rw [← this]
    exact (sameR_iff n1 n1).mpr fun _ => rfl
  · by_cases hl : r1.length = r2.length
    · refine .inr (.inr (.inr (.inl ⟨_, _, sameR r1 r2, h1, h2, by rw [kvR_len, kvR_len]; exact hl, ?_, rfl⟩)))
      have e : sameR r1 r2 = (kvR V.int r1).all fun p => (fun k x => match valV (kvR V.int r2) k with | some y => eqV x y | none => false) p.1 p.2 := by
        unfold sameR kvR
        rw [decide_eq_true hl, Bool.true_and, List.all_map]
        refine List.all_congr rfl fun c => ?_
        show decide (getR r2 c.1 = some c.2) = match valV (kvR V.int r2) (.inr c.1) with | some y => eqV (.int c.2) y | none => false
        rw [valV_kvR]
        cases hg : getR r2 c.1 with
        | none => rfl
        | some v =>
          show decide (some v = some c.2) = (c.2 == v)
          rw [Bool.eq_iff_iff, decide_eq_true_iff, beq_iff_eq]
          exact ⟨fun z => (Option.some.inj z).symm, fun z => by rw [z]⟩
      rw [e]
      refine keyd_gen (fun k x => match valV (kvR V.int r2) k with | some y => eqV x y | none => false) fun p hp => ?_
      obtain ⟨c, hc, rfl⟩ := List.mem_map.mp hp
      dsimp only
      rw [valV_kvR]
      cases hg : getR r2 c.1 with
      | none => exact .inl ⟨rfl, rfl⟩
      | some v => exact .inr ⟨.int v, rfl, eqb_flat rfl rfl⟩
    · refine .inr (.inr (.inr (.inr ⟨_, _, h1, h2, by rw [kvR_len, kvR_len]; exact hl, ?_⟩)))
      unfold sameR
      rw [decide_eq_false hl, Bool.false_and]
theorem sums_eqB {n : Nat} {ps : List Str} {sd sd' : Addr} {sa sb : Str → Addr} {Z Z' : Str → SR} (h1 : H sd = some (.dK (outV ps sa))) (h2 : H sd' = some (.dK (outV ps sb))) (r1 : ∀ f ∈ ps, H (sa f) = some (.dK (kvR V.int (Z f)))) (r2 : ∀ f ∈ ps, H (sb f) = some (.dK (kvR V.int (Z' f)))) (nd : ∀ f ∈ ps, ((Z f).map (·.1)).Nodup) :
    RcB K H (EqB K H (n + 2)) (.ref sd) (.ref sd') (ps.all fun f => sameR (Z f) (Z' f)) := by
  refine ⟨sd, sd', rfl, rfl, fun e => ?_, ?_⟩
  · rw [← e, h1] at h2
    have h2 : outV ps sa = outV ps sb := by injection h2 with h2; injection h2
    rw [List.all_eq_true]
    intro f hf
    have e2 : some (V.ref (sa f)) = some (V.ref (sb f)) := by rw [← outV_get (sa := sa) hf, h2, outV_get hf]
    have e2 : sa f = sb f := by injection e2 with e2; injection e2
    have h3 := r1 f hf
    rw [e2, r2 f hf] at h3
    have : Z' f = Z f := kvR_inj (by injection h3 with h3; injection h3)
    rw [this]
    exact (sameR_iff (nd f hf) (nd f hf)).mpr fun _ => rfl
  · refine .inr (.inr (.inr (.inl ⟨_, _, _, h1, h2, by unfold outV; rw [List.length_map, List.length_map], ?_, rfl⟩)))
    have e : (ps.all fun f => sameR (Z f) (Z' f)) = (outV ps sa).all fun p => (fun k _ => match k with | .inr f => sameR (Z f) (Z' f) | .inl _ => false) p.1 p.2 := by
      unfold outV
      rw [List.all_map]
      rfl
    rw [e]
    refine keyd_gen (fun k _ => match k with | .inr f => sameR (Z f) (Z' f) | .inl _ => false) fun p hp => ?_
    obtain ⟨f, hf, rfl⟩ := List.mem_map.mp hp
    exact .inr ⟨.ref (sb f), outV_get hf, eqb_obj (rows_eqB (nd f hf) (r1 f hf) (r2 f hf))⟩
theorem strs_ansd2 {n : Nat} : ∀ {xs ys : List Str}, xs.length = ys.length → ∃ rs : List Bool, Ansd (EqB K H (n + 1)) (xs.map V.str) (ys.map V.str) rs ∧ rs.all id = decide (xs = ys)
  | [], [], _ => ⟨[], .nil, rfl⟩
  | x :: xs, y :: ys, h => by
    obtain ⟨rs, h1, h2⟩ := strs_ansd2 (n := n) (xs := xs) (ys := ys) (Nat.succ.inj h)
    refine ⟨(x == y) :: rs, .cons (eqb_flat rfl rfl) h1, ?_⟩
    rw [List.all_cons, h2, Bool.eq_iff_iff, Bool.and_eq_true_iff, decide_eq_true_iff, decide_eq_true_iff]
    show (x == y) = true ∧ _ ↔ _
    rw [beq_iff_eq]
    exact ⟨fun z => by rw [z.1, z.2], fun z => List.cons.inj z⟩
end
def rEqTs (K : PySem.W.Frag) : R2 := fun x y H Q => ∃ (a b : Addr) (xs ys : List Str), x = .ref a ∧ y = .ref b ∧ SqT K H a (xs.map V.str) ∧ SqT K H b (ys.map V.str) ∧ xs.length = ys.length ∧ Q (.bl (decide (xs = ys))) H
theorem map_str_inj : ∀ {xs ys : List Str}, xs.map V.str = ys.map V.str → xs = ys
  | [], [], _ => rfl
  | [], _ :: _, h => nomatch h
  | _ :: _, [], h => nomatch h
  | x :: xs, y :: ys, h => by
    obtain ⟨h1, h2⟩ := List.cons.inj h
    cases h1
    rw [map_str_inj h2]
theorem op_eqTs {X : Cx} {k : Nat} (K : PySem.W.Frag) (hr : Room k X.A) (h : X.K = K := by rfl) : OpR X (compareOp .Eq) (rEqTs K) := by
  subst h
  intro pins s σ H x y v u Q I rx ry h
  obtain ⟨a, b, xs, ys, rfl, rfl, ha, hb, hl, q⟩ := h
  obtain ⟨rs, h1, h2⟩ := strs_ansd2 (K := X.K) (H := H) (n := 0) hl
  have hu := hr.units
  refine (rcB_run I (A := X.A) (r := decide (xs = ys)) (by omega) (eqB_run I 1 X.A.in1 (by show X.A.units + 1 + 1 < cLine; omega)) ⟨a, b, rfl, rfl, fun e => ?_, .inr (.inr (.inl ⟨_, _, rs, ha, hb, h1, h2.symm⟩))⟩ rx ry _ _).1 ⟨.bl (decide (xs = ys)), H, I, rfl, q⟩
  subst e
  exact decide_eq_true (map_str_inj (I.tuple_inj ha hb))
end Pu

set_option Elab.async false
set_option linter.all false
set_option maxRecDepth 100000
set_option maxHeartbeats 4000000
namespace Pu
open PySem PySem.Spec PyProof.Rows L2
/-! ### sorted texts -/
theorem risingS_pw : ∀ {l : List Str} {p : Str}, risingS p l = true → (p :: l).Pairwise fun a b => a.cps.toList ≤ b.cps.toList
  | [], p, _ => List.pairwise_singleton _ _
  | x :: r, p, h => by
    have h : (!ltCps x.cps.toList p.cps.toList && risingS x r) = true := h
    rw [Bool.and_eq_true, ltCps_eq] at h
    have h1 : p.cps.toList ≤ x.cps.toList := fun z => by
      rw [decide_eq_true z] at h
      exact Bool.noConfusion h.1
    have h2 := risingS_pw h.2
    refine List.pairwise_cons.mpr ⟨fun y hy => ?_, h2⟩
    rcases List.mem_cons.mp hy with rfl | hy
    · exact h1
    · exact List.le_trans h1 ((List.pairwise_cons.mp h2).1 y hy)
theorem sortedS_pw {l : List Str} (h : sortedS l = true) : l.Pairwise fun a b => a.cps.toList ≤ b.cps.toList := by
  cases l with
  | nil => exact .nil
  | cons x r => exact risingS_pw h
theorem sorted_uniq {a b : List Str} (ha : sortedS a = true) (hb : sortedS b = true) (h : a.Perm b) : a = b := by
  refine List.Perm.eq_of_pairwise (le := fun a b : Str => a.cps.toList ≤ b.cps.toList) (fun x y _ _ h1 h2 => ?_) (sortedS_pw ha) (sortedS_pw hb) h
  have e := List.le_antisymm h1 h2
  cases x with
  | mk x => cases y with
    | mk y =>
      have : x = y := by
        cases x; cases y
        exact congrArg _ e
      rw [this]
theorem srtS {X : Cx} (K : PySem.W.Frag) (h : X.K = K := by rfl) : CallR X (.builtin "sorted") (rSortedS K) := by
  subst h
  exact cr_sortedS
theorem minK {X : Cx} (K : PySem.W.Frag) (hc : X.calm = true := by rfl) (h : X.K = K := by rfl) : CallR X (.builtin "min") (rMin K) := by
  subst h
  exact cr_min hc
theorem empV_eq {K : PySem.W.Frag} {H : Hp} {n : Nat} {a b : Addr} {xs : List V} (h : H a = some (.lst xs)) (h' : H b = some (.lst [])) : RcB K H (EqB K H (n + 1)) (.ref a) (.ref b) (decide (xs.length = 0)) := by
  cases xs with
  | nil => exact ⟨a, b, rfl, rfl, fun _ => rfl, .inl ⟨[], [], [], .inl (.inl h), .inl (.inl h'), .nil, rfl⟩⟩
  | cons e r =>
    refine ⟨a, b, rfl, rfl, fun z => ?_, .inr (.inl ⟨_, _, .inl (.inl h), .inl (.inl h'), fun z => (nomatch z), rfl⟩)⟩
    rw [z, h'] at h
    cases h
theorem iteE {c : Bool} {A B : Prop} (hc : c = false) (h : B) : if c = true then A else B := by
  rw [hc]
  exact iteF h
theorem flt_take {α : Type} {p : α → Bool} {l : List α} {i : Nat} (h : i < l.length) (hp : p l[i] = true) : (l.take (i + 1)).filter p = (l.take i).filter p ++ [l[i]] := by
  rw [List.take_add_one, List.getElem?_eq_getElem h, List.filter_append]
  show _ ++ List.filter p [l[i]] = _
  rw [List.filter_cons, if_pos hp]
  rfl
theorem flt_skip {α : Type} {p : α → Bool} {l : List α} {i : Nat} (h : i < l.length) (hp : ¬ p l[i] = true) : (l.take (i + 1)).filter p = (l.take i).filter p := by
  rw [List.take_add_one, List.getElem?_eq_getElem h, List.filter_append]
  show _ ++ List.filter p [l[i]] = _
  rw [List.filter_cons, if_neg hp, List.filter_nil, List.append_nil]
theorem flt_len {α : Type} {p : α → Bool} {l : List α} {i : Nat} : ((l.take i).filter p).length ≤ l.length :=
  Nat.le_trans (List.length_filter_le _ _) (by rw [List.length_take]; exact Nat.min_le_right _ _)
theorem all_flt {α : Type} (p q : α → Bool) : ∀ (l : List α), (∀ a ∈ l, q a = !p a) → l.all q = decide ((l.filter p).length = 0)
  | [], _ => rfl
  | a :: r, h => by
    rw [List.all_cons, h a (List.mem_cons_self ..), all_flt p q r fun b hb => h b (List.mem_cons_of_mem _ hb), List.filter_cons]
    cases p a with
    | true =>
      rw [if_pos rfl, List.length_cons, decide_eq_false (by omega : ¬ ((r.filter p).length + 1 = 0))]
      rfl
    | false =>
      rw [if_neg (by decide)]
      rfl
end Pu

set_option Elab.async false
set_option linter.all false
set_option maxRecDepth 100000
set_option maxHeartbeats 4000000
/-! `x in list`, `x not in list` where the items are held against x one by one, with either answer -/
namespace PySem.SeqAt
open AutoSeq1 (wpAny_loadPart')
open MeetsSeq MeetsSeq2 MeetsSeq3 SeqRoads2
section
variable {P : Program} {w : World}
theorem contains_loopIn (l : Addr) (items : Array Value) (n : Nat) (dd : Option Addr) (sl : Array (Option Value)) (x : Value) (e : Nat → Bool) (k : Nat) :
    ∀ i : Nat, items.size - i = k → MeetsIn P w (Builtin.«list.__contains__.loop» ⟨[.ref l, x, rawInt i], []⟩)
      (fun A R s => s.heap.get? l = some { cls := .type "list", dict := dd, data := .seq items n, slots := sl } ∧ (∀ j (h : j < items.size), EqP P w A.in1 s items[j] x (e j)) ∧
        R (.ok (.ret (.bool (((List.range items.size).drop i).any e)))) s) := by
  induction k with
  | zero =>
    intro i hk A R s h
    obtain ⟨hp, g, d, tk, os⟩ := s; obtain ⟨hl, he, h⟩ := h
    wp_walk using wpAny_loadPart' hl
    have hi : items[((i : Nat) : Int).toNat]? = none := by simp; omega
    have hd : (List.range items.size).drop i = [] := by simp; omega
    rw [hd] at h
    rw [hi]
    wp_walk
    simpa using h
  | succ k ih =>
    intro i hk A R s h
    obtain ⟨hp, g, d, tk, os⟩ := s; obtain ⟨hl, he, h⟩ := h
    wp_walk using wpAny_loadPart' hl
    have hlt : i < items.size := by omega
    have hi : items[((i : Nat) : Int).toNat]? = some items[i] := by simp [hlt]
    have hd : (List.range items.size).drop i = i :: (List.range items.size).drop (i + 1) := by simp [List.drop_eq_getElem_cons, hlt]
    have hc : ((i : Int) + 1) = ((i + 1 : Nat) : Int) := by push_cast; rfl
    rw [hd, List.any_cons] at h
    rw [hi]
    refine wpAny_bind (he i hlt _ _ ?_)
    cases hb : e i with
    | true =>
      rw [hb] at h
      wp_walk
      simpa using h
    | false =>
      rw [hb] at h
      wp_walk
      rw [hc]
      exact ⟨plainId_quiet plain_contains_loop _, codeAny_builtin entry_contains_loop (by
        rw [Around.under_plainId plain_contains_loop _]
        exact ih (i + 1) (by omega) A R _ ⟨hl, he, by simpa using h⟩)⟩
theorem list_containsIn (l : Addr) (items : Array Value) (n : Nat) (dd : Option Addr) (sl : Array (Option Value)) (x : Value) (e : Nat → Bool) :
    MeetsIn P w (Builtin.«list.__contains__» ⟨[.ref l, x], []⟩)
      (fun A R s => s.heap.get? l = some { cls := .type "list", dict := dd, data := .seq items n, slots := sl } ∧ (∀ j (h : j < items.size), EqP P w A.in1 s items[j] x (e j)) ∧ R (.ok (.ret (.bool ((List.range items.size).any e)))) s) := by
  intro A R s h
  obtain ⟨hp, g, d, tk, os⟩ := s; obtain ⟨hl, he, h⟩ := h
  wp_walk using wpAny_loadPart' hl
  exact ⟨plainId_quiet plain_contains_loop _, codeAny_builtin entry_contains_loop (by
    rw [Around.under_plainId plain_contains_loop _]
    exact contains_loopIn l items n dd sl x e _ 0 rfl A R _ ⟨hl, he, by simpa using h⟩)⟩
theorem in_listP {A : Around} {s : Shared} {l : Addr} {items : Array Value} {x : Value} {E Q : Value → Shared → Prop} (e : Nat → Bool) (hl : s.heap.IsList l items) (he : ∀ j (h : j < items.size), EqP P w A.in1 s items[j] x (e j)) :
    (Q (.bool ((List.range items.size).any e)) s → wpAny (model P w) A (compareOp .In x (.ref l)) Q E s) ∧ (Q (.bool (!(List.range items.size).any e)) s → wpAny (model P w) A (compareOp .NotIn x (.ref l)) Q E s) := by
  obtain ⟨⟨cls, dd, data, sl⟩, ho, hc, n, hd⟩ := id hl
  simp only at hc hd
  subst hc hd
  refine ⟨fun h => ?_, fun h => ?_⟩
  · show wpAny _ A (do return .bool (← contains (.ref l) x)) Q E s
    refine wpAny_bind (wpAny_contains_slot ⟨_, ho, rfl⟩ F.slot_list_contains (wpAny_mono (call_meetsIn (Q := fun v s' => ∃ b, v = .bool b ∧ Q (.bool b) s') F.slot_list_contains ⟨_, ho, rfl⟩ F.entry_list_contains (F.args_list_contains_2 _ _) (list_containsIn l items n dd sl x e) ⟨ho, he, _, rfl, h⟩) (fun v s' hv => ?_) fun _ _ e => e))
    obtain ⟨b, rfl, hq⟩ := hv
    exact wpAny_truthy_bool (wpAny_pure hq)
  · show wpAny _ A (do return .bool (!(← contains (.ref l) x))) Q E s
    refine wpAny_bind (wpAny_contains_slot ⟨_, ho, rfl⟩ F.slot_list_contains (wpAny_mono (call_meetsIn (Q := fun v s' => ∃ b, v = .bool b ∧ Q (.bool (!b)) s') F.slot_list_contains ⟨_, ho, rfl⟩ F.entry_list_contains (F.args_list_contains_2 _ _) (list_containsIn l items n dd sl x e) ⟨ho, he, _, rfl, h⟩) (fun v s' hv => ?_) fun _ _ e => e))
    obtain ⟨b, rfl, hq⟩ := hv
    exact wpAny_truthy_bool (wpAny_pure hq)
end
end PySem.SeqAt
namespace Pu
open PySem PySem.Spec PyProof.Rows L2
/-- x in a list of things that are held against x one by one -/
def rInB (K : PySem.W.Frag) (neg : Bool) : R2 := fun x y H Q => ∃ (p : Addr) (xs : List V) (n : Nat) (bs : List Bool), y = .ref p ∧ SqL K H p xs ∧ n ≤ 60 ∧ bs.length = xs.length ∧ (∀ (j : Nat) (z : V) (b : Bool), xs[j]? = some z → bs[j]? = some b → EqB K H n z x b) ∧ Q (.bl (if neg then !bs.any id else bs.any id)) H
theorem any_getD : ∀ bs : List Bool, (List.range bs.length).any (fun j => bs.getD j false) = bs.any id
  | [] => rfl
  | r :: rs => by
    rw [List.length_cons, List.range_succ_eq_map, List.any_cons, List.any_map, List.any_cons, ← any_getD rs]
    rfl
section
variable {X : Cx} {k : Nat}
theorem inB_parts {pins : List (Addr × Obj)} {σ : L2.St} {H : Hp} {s : Shared} (I : Inv X pins σ H s) {n : Nat} (hu : X.A.units + 1 + n < cLine) {x : V} {v : Value} (rx : RelV x v) {xs : List V} {bs : List Bool} {us : List Value} (hl : bs.length = xs.length) (r : Vals xs us) (h : ∀ (j : Nat) (z : V) (b : Bool), xs[j]? = some z → bs[j]? = some b → EqB X.K H n z x b) :
    ∀ j (hj : j < us.toArray.size), SeqAt.EqP X.prog X.w X.A.in1 s us.toArray[j] v (bs.getD j false) := fun j hj => by
  have hj2 : j < us.length := by simpa using hj
  have hjx : j < xs.length := by rw [r.length]; exact hj2
  have hjb : j < bs.length := by omega
  have ex : xs[j]? = some xs[j] := List.getElem?_eq_getElem hjx
  obtain ⟨u, hu1, ru⟩ := Vals.get r ex
  have eu : us.toArray[j] = u := by
    have : us[j] = u := by
      rw [List.getElem?_eq_getElem hj2] at hu1
      exact Option.some.inj hu1
    simpa using this
  have eb : bs.getD j false = bs[j] := by rw [List.getD_eq_getElem?_getD, List.getElem?_eq_getElem hjb]; rfl
  rw [eu, eb]
  exact eqB_run I n X.A.in1 (by show X.A.units + 1 + n < cLine; exact hu) _ _ _ _ _ (h j _ _ ex (List.getElem?_eq_getElem hjb)) ru rx
theorem op_inB (K : PySem.W.Frag) (hr : Room k X.A) (e : X.K = K := by rfl) : OpR X (compareOp .In) (rInB K false) := by
  subst e
  intro pins s σ H x y v u Q I rx ry h
  obtain ⟨p, xs, n, bs, rfl, hq, hn, hl, hb, q⟩ := h
  cases ry
  have hu := hr.units
  obtain ⟨its, r, pl, hz⟩ := I.list hq
  have hs : its.toArray.size = bs.length := by rw [List.size_toArray, ← r.length, hl]
  exact (SeqAt.in_listP (A := X.A) (fun j => bs.getD j false) pl.isList (inB_parts I (n := n) (by omega) rx hl r hb)).1 ⟨.bl _, H, I, rfl, by rw [hs, any_getD]; exact q⟩
theorem op_notInB (K : PySem.W.Frag) (hr : Room k X.A) (e : X.K = K := by rfl) : OpR X (compareOp .NotIn) (rInB K true) := by
  subst e
  intro pins s σ H x y v u Q I rx ry h
  obtain ⟨p, xs, n, bs, rfl, hq, hn, hl, hb, q⟩ := h
  cases ry
  have hu := hr.units
  obtain ⟨its, r, pl, hz⟩ := I.list hq
  have hs : its.toArray.size = bs.length := by rw [List.size_toArray, ← r.length, hl]
  exact (SeqAt.in_listP (A := X.A) (fun j => bs.getD j false) pl.isList (inB_parts I (n := n) (by omega) rx hl r hb)).2 ⟨.bl _, H, I, rfl, by rw [hs, any_getD]; exact q⟩
end
/-! ### tuples of three -/
theorem tup3_eqB {K : PySem.W.Frag} {H : Hp} {n : Nat} {a b : Addr} {s t : Str × Str × Int} (h1 : H a = some (.tup [.str s.1, .str s.2.1, .int s.2.2])) (h2 : H b = some (.tup [.str t.1, .str t.2.1, .int t.2.2])) : EqB K H (n + 2) (.ref a) (.ref b) (decide (s = t)) := by
  by_cases e : a = b
  · subst e
    have : s = t := by
      rw [h1] at h2
      obtain ⟨s1, s2, s3⟩ := s
      obtain ⟨t1, t2, t3⟩ := t
      have h2 := HO.tup.inj (Option.some.inj h2)
      injection h2 with z1 h2
      injection h2 with z2 h2
      injection h2 with z3 h2
      injection z1 with z1
      injection z2 with z2
      injection z3 with z3
      subst z1 z2 z3
      rfl
    rw [decide_eq_true this]
    exact eqb_same
  · refine eqb_obj ⟨a, b, rfl, rfl, fun z => absurd z e, .inr (.inr (.inl ⟨_, _, [s.1 == t.1, s.2.1 == t.2.1, s.2.2 == t.2.2], .inl (.inl h1), .inl (.inl h2), .cons (eqb_flat rfl rfl) (.cons (eqb_flat rfl rfl) (.cons (eqb_flat rfl rfl) .nil)), ?_⟩))⟩
    rw [Bool.eq_iff_iff, decide_eq_true_iff]
    simp only [List.all_cons, List.all_nil, id, Bool.and_true, Bool.and_eq_true, beq_iff_eq]
    obtain ⟨s1, s2, s3⟩ := s
    obtain ⟨t1, t2, t3⟩ := t
    simp only [Prod.mk.injEq]
end Pu

set_option Elab.async false
set_option linter.all false
set_option maxRecDepth 100000
set_option maxHeartbeats 4000000
/-! parts of lists; stars within comprehensions -/
namespace Pu
open PySem PySem.Spec PyProof.Rows L2
/-- a walk whose turns are told by what they leave for the next one -/
theorem walk_it {J : It} {n : Nat} {G : Hp → Prop} {Y : Nat → Hp → V → Hp → Prop} (w : Walk J n G Y) {Body : (Hp → Prop) → V → Hp → Prop} {Fin : Hp → Prop} {H0 : Hp} (Pv : Nat → Hp → Prop) (h0 : Pv 0 H0) (hG : ∀ i H, i ≤ n → Pv i H → G H) (hs : ∀ i x H H', i < n → Pv i H → Y i H x H' → Body (Pv (i + 1)) x H') (hd : ∀ H, Pv n H → Fin H) :
    ∃ W : Nat → Nat → Hp → Prop, (∃ m, W 0 m H0) ∧ ∀ i m H, W i m H → (J.stop i H ∧ Fin H) ∨ (J.go i H ∧ ∃ Nx : Hp → Prop, (∀ H', Nx H' → ∃ m', m' < m ∧ W (i + 1) m' H') ∧ ∀ x H', J.yld i H x H' → Body Nx x H') := by
  refine ⟨fun i m H => m = n - i ∧ i ≤ n ∧ Pv i H, ⟨n, by simp, Nat.zero_le _, h0⟩, ?_⟩
  rintro i m H ⟨rfl, hi, p⟩
  rcases Nat.lt_or_ge i n with hlt | hge
  · exact .inr ⟨w.goes i H hlt (hG i H hi p), Pv (i + 1), fun H' p' => ⟨n - (i + 1), by omega, rfl, hlt, p'⟩, fun x H' y => hs i x H H' hlt p (w.yields i H x H' hlt (hG i H hi p) y)⟩
  · have e : i = n := Nat.le_antisymm hi hge
    subst e
    exact .inl ⟨w.stops H (hG _ H hi p), hd H p⟩
theorem paired_takeU {α β : Type} {R : α → β → Prop} {xs : List α} {ys : List β} (h : Paired R xs ys) : ∀ n, Paired R (xs.take n) (ys.take n) := by
  induction h with
  | nil => intro n; rw [List.take_nil, List.take_nil]; exact .nil
  | cons r _ ih =>
    intro n
    cases n with
    | zero => exact .nil
    | succ n => exact .cons r (ih n)
theorem paired_dropU {α β : Type} {R : α → β → Prop} {xs : List α} {ys : List β} (h : Paired R xs ys) : ∀ n, Paired R (xs.drop n) (ys.drop n) := by
  induction h with
  | nil => intro n; rw [List.drop_nil, List.drop_nil]; exact .nil
  | cons r t ih =>
    intro n
    cases n with
    | zero => exact .cons r t
    | succ n => exact ih n
theorem cut_takeU (xs : List V) (k : Nat) : cutV xs none (some (k : Int)) = xs.take k := by
  unfold cutV
  rw [HT.sIx_none, HT.sIx_nat, List.drop_zero, Nat.sub_zero, ← List.take_take, List.take_length]
theorem cut_dropU (xs : List V) (k : Nat) : cutV xs (some (k : Int)) none = xs.drop k := by
  unfold cutV
  rw [HT.sIx_none, HT.sIx_nat, List.take_of_length_le (by rw [List.length_drop]; exact Nat.le_refl _)]
  by_cases h : k ≤ xs.length
  · rw [Nat.min_eq_left h]
  · rw [Nat.min_eq_right (by omega), List.drop_of_length_le (Nat.le_refl _), List.drop_of_length_le (by omega)]
end Pu

set_option Elab.async false
set_option linter.all false
set_option maxRecDepth 100000
set_option maxHeartbeats 4000000
namespace Pk
open PySem PySem.Spec PyProof.Rows L2 Pu
abbrev s_closed_sums : Stmt := topS 6
theorem sc_closed_sums : FnScope ["plan"] ["plan"] (defScope s_closed_sums) := ⟨rfl, rfl, rfl, by decide +kernel, rfl, by decide +kernel, by decide +kernel⟩

section
variable {P : Program} {w : World} {K : PySem.W.Frag} {mg : Str → Option Value} {base : Heap}
/-! ### sums between places, on the heap -/
structure SmAt (H : Hp) (q : Addr) (ps : List Str) (S : Str → Str → Option Int) : Prop where
  ex : ∃ (sa : Str → Addr) (Z : Str → SR), H q = some (.dK (outV ps sa)) ∧ (∀ f ∈ ps, H (sa f) = some (.dK (kvR V.int (Z f)))) ∧ ∀ f ∈ ps, ((Z f).map (·.1)).Nodup ∧ (∀ j ∈ (Z f).map (·.1), j ∈ ps) ∧ ∀ l, getR (Z f) l = S f l
theorem SmAt.same {H H' : Hp} {q : Addr} {ps : List Str} {S : Str → Str → Option Int} (h : SmAt H q ps S) (s : Same H H') : SmAt H' q ps S := by
  obtain ⟨sa, Z, h1, h2, h3⟩ := h.ex
  exact ⟨sa, Z, s _ _ h1, fun f hf => s _ _ (h2 f hf), h3⟩
theorem SmAt.row {H : Hp} {q : Addr} {ps : List Str} {S : Str → Str → Option Int} (h : SmAt H q ps S) {f : Str} (hf : f ∈ ps) : ∃ a r, DGet H q (.str f) (some (.ref a)) ∧ H a = some (.dK (kvR V.int r)) ∧ (r.map (·.1)).Nodup ∧ (∀ j ∈ r.map (·.1), j ∈ ps) ∧ (∀ l, getR r l = S f l) ∧ ∀ l, DGet H a (.str l) ((S f l).map V.int) := by
  obtain ⟨sa, Z, h1, h2, h3⟩ := h.ex
  obtain ⟨n1, n2, n3⟩ := h3 f hf
  refine ⟨sa f, Z f, .inl ⟨outV ps sa, .inr f, .inl h1, rfl, (outV_get hf).symm⟩, h2 f hf, n1, n2, n3, fun l => .inl ⟨kvR V.int _, .inr l, .inl (h2 f hf), rfl, ?_⟩⟩
  rw [valV_kvR, n3 l]
theorem SmAt.dic {H : Hp} {q : Addr} {ps : List Str} {S : Str → Str → Option Int} (h : SmAt H q ps S) : ∃ sa, H q = some (.dK (outV ps sa)) := by
  obtain ⟨sa, Z, h1, _⟩ := h.ex
  exact ⟨sa, h1⟩
theorem keys_iff {r : SR} {l : Str} : l ∈ r.map (·.1) ↔ (getR r l).isSome = true := by
  induction r with
  | nil => exact ⟨fun h => absurd h List.not_mem_nil, fun h => nomatch h⟩
  | cons c r ih =>
    show l ∈ c.1 :: r.map (·.1) ↔ (if c.1 = l then some c.2 else getR r l).isSome = true
    by_cases e : c.1 = l
    · rw [if_pos e, e]
      exact ⟨fun _ => rfl, fun _ => List.mem_cons_self ..⟩
    · rw [if_neg e, ← ih]
      exact ⟨fun h => (List.mem_cons.mp h).resolve_left fun z => e z.symm, fun h => List.mem_cons_of_mem _ h⟩
theorem nodup_le {xs ys : List Str} (nd : xs.Nodup) (h : ∀ x ∈ xs, x ∈ ys) : xs.length ≤ ys.length := nodup_len nd h
def farS (d : PlanD) : Str → Str → Option Int := fun f l => getR (far d f) l
def spClosedSm (K : PySem.W.Frag) (C : Addr) : Sp := fun vs H Q _ => ∃ (p : Addr) (d : PlanD), vs = [.ref p] ∧ PlanAt K C H p d ∧ PlanOk d ∧ ∀ q H', Same H H' → SmAt H' q (("" : Str) :: d.evs) (farS d) → Q (.ref q) H'
theorem ok_closed_sm {C f : Addr} {fd : FuncData} (F : Fun K "closed_sums" "closed_sums" s_closed_sums f fd) (T : Txt mg) (cclose : Cal P w K mg base 1 "close" spClose []) (cplaces_of : Cal P w K mg base 2 "places_of" (spPlaces K C) []) (cplaced_rows : Cal P w K mg base 2 "placed_rows" (spRows K C) []) :
    FnOk P w K mg base CX0 3 f fd ["plan"] (spClosedSm K C) := by
  have nd := sc_closed_sums.nd
  refine F.ok sc_closed_sums (fun vs H Q E h => ?_) (fun cdv A outer s H vs Q E hr h => ?_)
  · obtain ⟨_, _, rfl, _⟩ := h
    rfl
  · obtain ⟨p, d, rfl, hp, ok, q⟩ := h
    refine ⟨_, (pss_one (ps_ret (pe_ix (ixT K) (pe_c cclose hr (by decide) rfl (pa_cons (pe_c cplaces_of hr (by decide) rfl (pa_cons (pv 0) pa_nil)) (pa_cons (pe_c cplaced_rows hr (by decide) rfl (pa_cons (pv 0) pa_nil)) pa_nil))) pe_int (fun _ _ => rfl)))), ?_⟩
    have hl8 := ok.evs.hi
    have nd9 := evs_nd ok
    refine ⟨_, rfl, p, d, rfl, hp, hl8, fun a1 H3 s3 n3 e3 => ?_⟩
    have hp3 := hp.same s3
    refine ⟨_, rfl, p, d, rfl, hp3, ok, fun a2 as H4 s4 n4 e4 hR => ?_⟩
    obtain ⟨rs, hT, hP⟩ := rows_split hR
    have hrs : ∀ r ∈ rs, r.1 ∈ ("" : Str) :: d.evs ∧ r.2.1 ∈ ("" : Str) :: d.evs ∧ 0 ≤ r.2.2.1 := fun r hr => by
      obtain ⟨y, hy, q1, q2, q3, _⟩ := paired_mem hP r hr
      rw [q1, q2, q3]
      exact planRows_in ok y hy
    have hlen : rs.length ≤ 100 := by
      rw [Paired.length hP]
      exact planRows_len ok
    refine ⟨a1, a2, _, as, rs, rfl, s4 _ _ e3, e4, hT, nd9, by rw [List.length_cons]; omega, hlen, hrs, fun t sd wd sa wa H5 s5 nt et hZ => ?_⟩
    refine ⟨t, _, ((0 : Nat) : Int), .ref sd, rfl, rfl, .inl (.inl et), atI_nat rfl, ?_⟩
    have I := all_inv nd9 hrs
    exact q sd H5 (Same.trans s3 (Same.trans s4 s5)) ⟨sa, fun f => (closeZ (("" : Str) :: d.evs) (("" : Str) :: d.evs).length (rowsZ rs) f).1, hZ.ds, hZ.s, fun g hg => ⟨(I.ok g hg).s1, (I.ok g hg).s2, fun l => far_all ok hP hg l⟩⟩

end
end Pk

set_option Elab.async false
set_option linter.all false
set_option maxRecDepth 100000
set_option maxHeartbeats 4000000
/-! comprehensions that choose among strings -/
namespace Pu
open PySem PySem.Spec PyProof.Rows L2
section
variable {D : Addr} {H1 : Hp} {te : TE} {tt : TT} {i : Nat} {vs : List Nat} {σ : L2.St} {Qd : Hp → Prop}
theorem lc_flt {J : It} {G : Hp → Prop} {es : List Str} (p : Str → Bool) (w : Walk J (es.map V.str).length G (YAt (es.map V.str))) (hD : H1 D = none) (hG : ∀ H', Same H1 H' → G H')
    (hw : ∀ x, wipe ((wipe σ vs).set i (some x)) vs = wipe σ vs)
    (ht : ∀ e ∈ es, ∀ H', Same H1 H' → ∀ N : Bool → Hp → Prop, (∀ H'', Same H' H'' → N (p e) H'') → tt ((wipe σ vs).set i (some (.str e))) H' N)
    (he : ∀ e H' (N : VK), N (.str e) H' → te ((wipe σ vs).set i (some (.str e))) H' N)
    (fin : ∀ H', Same H1 H' → H' D = some (.lst ((es.filter p).map V.str)) → Qd H') (hz : es.length ≤ 10000 := by omega) :
    ∃ W : Nat → Nat → Hp → Prop, (∃ m, W 0 m (upd H1 D (.lst []))) ∧ ∀ i' m H, W i' m H →
      (J.stop i' H ∧ Qd H) ∨ (J.go i' H ∧ ∃ Nx : Hp → Prop, (∀ H', Nx H' → ∃ m', m' < m ∧ W (i' + 1) m' H') ∧ ∀ x H', J.yld i' H x H' → gName i x (wipe σ vs) H' fun σ2 H2 => wipe σ2 vs = wipe σ vs ∧ tt σ2 H2 fun b H3 =>
        if b = true then te σ2 H3 fun y H4 => ∃ acc, H4 D = some (.lst acc) ∧ acc.length < sizeLine ∧ Nx (upd H4 D (.lst (acc ++ [y]))) else Nx H3) := by
  refine lc_it w (fun j H' => Same H1 H' ∧ H' D = some (.lst (((es.take j).filter p).map V.str))) ⟨same_upd hD, upd_same⟩ (fun j H' _ pv => hG H' pv.1) (fun j x H' H'' hj pv yv => ?_) (fun H' pv => ?_)
  · obtain ⟨rfl, hx⟩ := yv
    rw [List.length_map] at hj
    rw [List.getElem?_map, List.getElem?_eq_getElem hj] at hx
    cases hx
    refine ⟨hw _, ht _ (List.getElem_mem hj) _ pv.1 _ fun H3 s3 => ?_⟩
    have hd3 := s3 _ _ pv.2
    have s13 := Same.trans pv.1 s3
    cases hb : p es[j] with
    | true =>
      rw [if_pos rfl]
      refine he _ _ _ ⟨_, hd3, ?_, fun b o hb2 => ?_, ?_⟩
      · rw [List.length_map]
        refine Nat.lt_of_le_of_lt (List.length_filter_le _ _) ?_
        rw [List.length_take]
        exact Nat.lt_of_le_of_lt (Nat.min_le_right _ _) (Nat.lt_of_lt_of_le (by omega) (sz 10001))
      · rw [upd_ne (ne_of_none hb2 hD)]
        exact s13 _ _ hb2
      · rw [upd_same, List.take_add_one, List.getElem?_eq_getElem hj, List.filter_append, List.map_append]
        show some (HO.lst (_ ++ [V.str es[j]])) = some (.lst (_ ++ (List.filter _ [es[j]]).map V.str))
        rw [List.filter_cons, if_pos hb]
        rfl
    | false =>
      rw [if_neg (by decide)]
      refine ⟨s13, ?_⟩
      rw [List.take_add_one, List.getElem?_eq_getElem hj, List.filter_append]
      show H3 D = some (.lst ((_ ++ List.filter _ [es[j]]).map V.str))
      rw [List.filter_cons, if_neg (by rw [hb]; decide), List.filter_nil, List.append_nil]
      exact hd3
  · rw [List.length_map, List.take_length] at pv
    exact fin H' pv.1 pv.2
end
end Pu

set_option Elab.async false
set_option linter.all false
set_option maxRecDepth 100000
set_option maxHeartbeats 4000000
/-! a walk over what is a list or a tuple -/
namespace Pu
open PySem PySem.Spec PyProof.Rows L2
section
variable {K : PySem.W.Frag} {a : Addr} {xs : List V}
theorem it_seq {te : TE} {σ : L2.St} {H H0 : Hp} {R : It → Hp → Prop} (he : ∀ Q : VK, Q (.ref a) H → te σ H Q) (hq : Sq K H0 a xs) (hH : ∀ o, H0 a = some o → H a = some o)
    (k : ∀ J, Walk J xs.length (fun H' => ∀ o, H0 a = some o → H' a = some o) (YAt xs) → R J H) : iSeq K te σ H R := by
  rcases hq with hl | ht
  · exact .inl (he _ ⟨a, rfl, ⟨xs, sql_at hl hH⟩, k _ (Walk.mono (walk_list (K := K) (a := a) (xs := xs)) (G' := fun H' => ∀ o, H0 a = some o → H' a = some o) (fun H' s => sql_at hl s) fun _ _ _ _ _ _ y => y)⟩)
  · exact .inr (he _ ⟨a, rfl, ⟨xs, sqt_at ht hH⟩, k _ (Walk.mono (walk_tup (K := K) (a := a) (xs := xs)) (G' := fun H' => ∀ o, H0 a = some o → H' a = some o) (fun H' s => sqt_at ht s) fun _ _ _ _ _ _ y => y)⟩)
end
end Pu

set_option Elab.async false
set_option linter.all false
set_option maxRecDepth 100000
set_option maxHeartbeats 4000000
namespace Pk
open PySem PySem.Spec PyProof.Rows L2 Pu
abbrev s_is_above : Stmt := topS 48
theorem sc_is_above : FnScope ["greatest", "bound"] ["greatest", "bound"] (defScope s_is_above) := ⟨rfl, rfl, rfl, by decide +kernel, rfl, by decide +kernel, by decide +kernel⟩
abbrev s_free_steps : Stmt := topS 53
theorem sc_free_steps : FnScope ["limits", "events", "event"] ["limits", "events"] (defScope s_free_steps) := ⟨rfl, rfl, rfl, by decide +kernel, rfl, by decide +kernel, by decide +kernel⟩
abbrev s_leads_round : Stmt := topS 54
theorem sc_leads_round : FnScope ["sums", "tie", "earlier", "later", "lag", "ahead", "places", "place"] ["sums", "tie"] (defScope s_leads_round) := ⟨rfl, rfl, rfl, by decide +kernel, rfl, by decide +kernel, by decide +kernel⟩

section
variable {P : Program} {w : World} {K : PySem.W.Frag} {mg : Str → Option Value} {base : Heap}
/-! ### what bars beside ties; ways through another place -/
def optW (o : Option Int) : V := (o.map V.int).getD .non
def spAbove : Sp := fun vs H Q _ => ∃ (o : Option Int) (b : Int), vs = [optW o, .int b] ∧ Q (.bl (aboveB o b)) H
theorem ok_is_above {f : Addr} {fd : FuncData} (F : Fun K "is_above" "is_above" s_is_above f fd) (T : Txt mg) : FnOk P w K mg base CX0 1 f fd ["greatest", "bound"] spAbove := by
  have nd := sc_is_above.nd
  refine F.ok sc_is_above (fun vs H Q E h => ?_) (fun cdv A outer s H vs Q E hr h => ?_)
  · obtain ⟨_, _, rfl, _⟩ := h
    rfl
  · obtain ⟨o, b, rfl, q⟩ := h
    refine ⟨_, (pss_one (ps_ret (pe_or (pe_cmpR op_isN (pv 0) pe_non (by rfl)) (pe_one (pe_cmpR op_gt (pv 0) (pv 1) (by rfl)))))), ?_⟩
    cases o with
    | none => exact ⟨_, rfl, rfl, _, rfl, q⟩
    | some v => exact ⟨_, rfl, rfl, _, rfl, _, rfl, _, rfl, _, _, rfl, rfl, q⟩
theorem lst_ties {H : Hp} {D p : Addr} {as : List Addr} {rs : List LRow} (h : TiesAt H as rs) (hp : H p = none) : TiesAt (upd H p (.lst (as.map V.ref))) as rs := h.same (same_upd hp)
def spFree : Sp := fun vs H Q _ => ∃ (c e : Addr) (caps : List (Str × Int)) (evs : List Str), vs = [.ref c, .ref e] ∧ H c = some (.dK (capsV caps)) ∧ H e = some (.lst (evs.map V.str)) ∧ (caps.map (·.1)).Nodup ∧ caps.length ≤ 8 ∧ evs.length ≤ 8 ∧ ∀ q ts H', Same H H' → H q = none → H' q = some (.lst (ts.map V.ref)) → TiesAt H' ts (freeR "" evs caps) → Q (.ref q) H'
def spFreeS (K : PySem.W.Frag) : Sp := fun vs H Q _ => ∃ (c e : Addr) (caps : List (Str × Int)) (evs : List Str), vs = [.ref c, .ref e] ∧ H c = some (.dK (capsV caps)) ∧ Sq K H e (evs.map V.str) ∧ (caps.map (·.1)).Nodup ∧ caps.length ≤ 8 ∧ evs.length ≤ 8 ∧ ∀ q ts H', Same H H' → H q = none → H' q = some (.lst (ts.map V.ref)) → TiesAt H' ts (freeR "" evs caps) → Q (.ref q) H'
theorem ok_free_stepsS {f : Addr} {fd : FuncData} (F : Fun K "free_steps" "free_steps" s_free_steps f fd) (T : Txt mg) : FnOk P w K mg base CX0 1 f fd ["limits", "events"] (spFreeS K) := by
  have nd := sc_free_steps.nd
  refine F.ok sc_free_steps (fun vs H Q E h => ?_) (fun cdv A outer s H vs Q E hr h => ?_)
  · obtain ⟨_, _, _, _, rfl, _⟩ := h
    rfl
  · obtain ⟨c, e, caps, evs, rfl, hc, he, hnd, h8c, h8e, q⟩ := h
    have hu := hu_of hr
    refine ⟨_, (pss_one (ps_ret (pe_lst (StX.pa_star (pe_lock (pe_lc (own := [("event", 2)]) (g := gName 2) (tt := tYes) rfl nd (pi_keys (pv 0)) (blkOk_by (N := ["limits", "events", "event"]) (sc := defScope s_free_steps) (by decide +kernel)) (fun _ _ _ _ _ => pg_name (i := 2) nd rfl (Or.inl rfl)) (fun _ _ _ _ _ => pts_nil) (fun _ _ _ _ _ => (pe_tup (pa_cons (pe_gs rfl T.m_NOTHING) (pa_cons (pv 2) (pa_cons (pe_dget hu (pv 0) (pv 2) (fun _ _ => rfl)) pa_nil))))))) (StX.pa_star (pe_lc (own := [("event", 2)]) (g := gName 2) (tt := tYes) rfl nd (pi_seq K (pv 1)) (blkOk_by (N := ["limits", "events", "event"]) (sc := defScope s_free_steps) (by decide +kernel)) (fun _ _ _ _ _ => pg_name (i := 2) nd rfl (Or.inl rfl)) (fun _ _ _ _ _ => pts_nil) (fun _ _ _ _ _ => (pe_tup (pa_cons (pv 2) (pa_cons (pe_gs rfl T.m_NOTHING) (pa_cons pe_int pa_nil)))))) pa_nil))))), ?_⟩
    refine ⟨c, _, hc, True.intro, fun od => ?_⟩
    have hL : (upd H c (.frz od (.dK (capsV caps)))) c = some (.frz od (.dK (capsV caps))) := upd_same
    have unl : ∀ {H'}, Same (upd H c (.frz od (.dK (capsV caps)))) H' → Same H (upd H' c (.dK (capsV caps))) := fun s => unlock_same hc s
    have fr : ∀ {b}, (upd H c (.frz od (.dK (capsV caps)))) b = none → H b = none ∧ b ≠ c := fun {b} hb => by
      have : b ≠ c := fun z => by rw [z, hL] at hb; cases hb
      rw [upd_ne this] at hb
      exact ⟨hb, this⟩
    revert hL unl fr
    generalize upd H c (.frz od (.dK (capsV caps))) = H2
    intro hL unl fr
    have hlen : (capsV caps).length = caps.length := List.length_map ..
    refine ⟨_, rfl, c, od, rfl, .inl ⟨_, hL, fun D hD => ?_⟩⟩
    refine lc_it (walk_keys (d := c) (o := od) (kvs := capsV caps)) (fun i H' => Same H2 H' ∧ ∃ as, H' D = some (.lst (as.map V.ref)) ∧ TiesAt H' as ((caps.take i).map fun c => (("" : Str), c.1, c.2)) ∧ as.length ≤ i) ⟨same_upd hD, [], upd_same, .nil, Nat.le_refl _⟩ (fun i H' _ pv => pv.1 _ _ hL) (fun i x H4 H5 hi pv yv => ?_) (fun H4 pv => ?_)
    · obtain ⟨rfl, k, v, hk, rfl⟩ := yv
      obtain ⟨s4, as, hD4, hR4, hla⟩ := pv
      rw [hlen] at hi
      have hci : caps[i]? = some caps[i] := List.getElem?_eq_getElem hi
      have hk2 : (capsV caps)[i]? = some (.inr caps[i].1, .int caps[i].2) := by
        unfold capsV
        rw [List.getElem?_map, hci]
        rfl
      rw [hk2] at hk
      cases hk
      have hg : valV (capsV caps) (.inr caps[i].1) = some (.int caps[i].2) := by
        rw [valV_capOf, capOf_nd hnd (List.getElem_mem hi)]
        rfl
      refine ⟨rfl, _, rfl, _, rfl, _, rfl, c, _, rfl, .inl ⟨capsV caps, .inr caps[i].1, .inr ⟨od, s4 _ _ hL⟩, rfl, hg.symm⟩, sz 3, fun T1 nT1 => ?_⟩
      exact lst_step (r := (("" : Str), caps[i].1, caps[i].2)) hD hD4 hR4 s4 hla hi (by rw [List.take_add_one, hci, List.map_append]; rfl) nT1
    · obtain ⟨s4, as, hD4, hR4, hla⟩ := pv
      rw [hlen, List.take_length] at hR4
      rw [hlen] at hla
      have hDc : D ≠ c := (fr hD).2
      have s15 := unl s4
      have kD : (upd H4 c (.dK (capsV caps))) D = some (.lst (as.map V.ref)) := by rw [upd_ne hDc]; exact hD4
      have hR5 : TiesAt (upd H4 c (.dK (capsV caps))) as (caps.map fun c => (("" : Str), c.1, c.2)) := hR4.keep fun a _ xs h => by
        rw [upd_ne]
        · exact h
        · intro z
          rw [z, s4 _ _ hL] at h
          cases h
      refine ⟨s4 _ _ hL, ?_⟩
      revert s15 kD hR5
      generalize upd H4 c (.dK (capsV caps)) = H5
      intro s15 kD hR5
      clear hR4 hD4 s4 hL fr unl
      refine ⟨D, _, rfl, .inr (.inl (.inl kD)), ?_⟩
      refine it_seq (fun Q q => ⟨_, rfl, q⟩) (sq_same he s15) (fun _ h => h) fun J wJ D2 nD2 => ?_
      refine lc_it wJ (fun i H' => Same H5 H' ∧ ∃ bs, H' D2 = some (.lst (bs.map V.ref)) ∧ TiesAt H' bs ((evs.take i).map fun e => (e, ("" : Str), (0 : Int))) ∧ bs.length ≤ i) ⟨same_upd nD2, [], upd_same, .nil, Nat.le_refl _⟩ (fun i H' _ pv o h => pv.1 _ _ h) (fun i x H6' H6 hi pv yv => ?_) (fun H6 pv => ?_)
      · obtain ⟨rfl, hx⟩ := yv
        obtain ⟨s6, bs, hD6, hR6, hlb⟩ := pv
        obtain ⟨g, hg, rfl⟩ := strs_get hx
        rw [List.length_map] at hi
        refine ⟨rfl, _, rfl, sz 3, fun T1 nT1 => ?_⟩
        exact lst_step (r := (g, ("" : Str), (0 : Int))) nD2 hD6 hR6 s6 hlb hi (by rw [List.take_add_one, hg, List.map_append]; rfl) nT1
      · obtain ⟨s6, bs, hD6, hR6, hlb⟩ := pv
        rw [List.length_map, List.take_length] at hR6
        rw [List.length_map] at hlb
        refine ⟨D2, _, rfl, .inr (.inl (.inl hD6)), ?_⟩
        have e0 : as.map V.ref ++ (bs.map V.ref ++ []) = (as ++ bs).map V.ref := by rw [List.append_nil, List.map_append]
        show (as.map V.ref ++ (bs.map V.ref ++ [])).length ≤ sizeLine ∧ ∀ p, H6 p = none → Q (.ref p) (upd H6 p (.lst (as.map V.ref ++ (bs.map V.ref ++ []))))
        rw [e0]
        refine ⟨?_, fun p np => ?_⟩
        · rw [List.length_map, List.length_append]
          exact Nat.le_trans (by omega) (sz 100)
        have s06 := Same.trans s15 s6
        have sp := same_upd np (o := .lst ((as ++ bs).map V.ref))
        refine q p (as ++ bs) _ (Same.trans s06 sp) (s06.free np) upd_same ?_
        exact ((hR5.same s6).app hR6).same sp
theorem ok_free_steps {f : Addr} {fd : FuncData} (F : Fun K "free_steps" "free_steps" s_free_steps f fd) (T : Txt mg) : FnOk P w K mg base CX0 1 f fd ["limits", "events"] spFree :=
  (ok_free_stepsS F T).imp fun vs H Q E h => by
    obtain ⟨c, e, caps, evs, h1, h2, h3, h4⟩ := h
    exact ⟨c, e, caps, evs, h1, h2, .inl (.inl (.inl h3)), h4⟩
/-- sums that may be read -/
def SmG (H : Hp) (q : Addr) (ps : List Str) (S : Str → Str → Option Int) : Prop := ∀ f ∈ ps, ∃ a kvs, DGet H q (.str f) (some (.ref a)) ∧ Rd H a (.dK kvs) ∧ ∀ l, DGet H a (.str l) ((S f l).map V.int)
theorem dget_same {H H' : Hp} {a : Addr} {k : V} {o : Option V} (h : DGet H a k o) (s : Same H H') : DGet H' a k o := by
  rcases h with ⟨kvs, k', h, r⟩ | ⟨kvs, k', b, h, r1, r2, r3⟩
  · rcases h with h | ⟨o, h⟩
    · exact .inl ⟨kvs, k', .inl (s _ _ h), r⟩
    · exact .inl ⟨kvs, k', .inr ⟨o, s _ _ h⟩, r⟩
  · rcases h with h | ⟨o, h⟩
    · exact .inr ⟨kvs, k', b, .inl (s _ _ h), r1, s _ _ r2, r3⟩
    · exact .inr ⟨kvs, k', b, .inr ⟨o, s _ _ h⟩, r1, s _ _ r2, r3⟩
theorem SmG.same {H H' : Hp} {q : Addr} {ps : List Str} {S : Str → Str → Option Int} (h : SmG H q ps S) (s : Same H H') : SmG H' q ps S := fun f hf => by
  obtain ⟨a, kvs, h1, h2, h3⟩ := h f hf
  refine ⟨a, kvs, dget_same h1 s, ?_, fun l => dget_same (h3 l) s⟩
  rcases h2 with h2 | ⟨o, h2⟩
  · exact .inl (s _ _ h2)
  · exact .inr ⟨o, s _ _ h2⟩
theorem SmAt.g {H : Hp} {q : Addr} {ps : List Str} {S : Str → Str → Option Int} (h : SmAt H q ps S) : SmG H q ps S := fun f hf => by
  obtain ⟨a, r, h1, h2, _, _, _, h3⟩ := h.row hf
  exact ⟨a, _, h1, .inl h2, h3⟩
/-- one of the rows is locked -/
theorem SmAt.lock {H : Hp} {q a : Addr} {ps : List Str} {S : Str → Str → Option Int} {r : SR} {od : Obj} (h : SmAt H q ps S) (ha : H a = some (.dK (kvR V.int r))) : SmG (upd H a (.frz od (.dK (kvR V.int r)))) q ps S := fun f hf => by
  obtain ⟨sa, Z, h1, h2, h3⟩ := h.ex
  obtain ⟨n1, n2, n3⟩ := h3 f hf
  have hqa : q ≠ a := fun z => by
    rw [z, ha] at h1
    have h1 : kvR V.int r = outV ps sa := HO.dK.inj (Option.some.inj h1)
    cases ps with
    | nil => cases hf
    | cons p ps =>
      cases r with
      | nil => cases h1
      | cons c r =>
        have : V.int c.2 = V.ref (sa p) := congrArg Prod.snd (List.cons.inj h1).1
        cases this
  refine ⟨sa f, kvR V.int (Z f), .inl ⟨outV ps sa, .inr f, .inl (by rw [upd_ne hqa]; exact h1), rfl, (outV_get hf).symm⟩, ?_⟩
  by_cases e : sa f = a
  · have hz : Z f = r := by
      have := h2 f hf
      rw [e, ha] at this
      exact (kvR_inj (HO.dK.inj (Option.some.inj this))).symm
    rw [e, hz]
    refine ⟨.inr ⟨od, upd_same⟩, fun l => .inl ⟨kvR V.int r, .inr l, .inr ⟨od, upd_same⟩, rfl, ?_⟩⟩
    rw [valV_kvR, ← n3 l, hz]
  · have hb : (upd H a (.frz od (.dK (kvR V.int r)))) (sa f) = some (.dK (kvR V.int (Z f))) := by rw [upd_ne e]; exact h2 f hf
    refine ⟨.inl hb, fun l => .inl ⟨kvR V.int (Z f), .inr l, .inl hb, rfl, ?_⟩⟩
    rw [valV_kvR, n3 l]
theorem walk_kvR {v : Addr} {od : Obj} {r : SR} : Walk (Itk v od (kvR V.int r)) ((r.map (·.1)).map V.str).length (fun H' => H' v = some (.frz od (.dK (kvR V.int r)))) (YAt ((r.map (·.1)).map V.str)) := by
  have wk := (walk_keys (d := v) (o := od) (kvs := kvR V.int r)).mono (fun _ h => h) (Y' := YAt ((r.map (·.1)).map V.str)) fun i Ha x Hb hi _ y => by
    obtain ⟨rfl, k, u, hk, rfl⟩ := y
    refine ⟨rfl, ?_⟩
    unfold kvR at hk
    rw [List.getElem?_map] at hk
    rw [List.getElem?_map, List.getElem?_map]
    cases e : r[i]? with
    | none => rw [e] at hk; cases hk
    | some s => rw [e] at hk; cases hk; rfl
  have hl : (kvR V.int r).length = ((r.map (·.1)).map V.str).length := by
    unfold kvR
    rw [List.length_map, List.length_map, List.length_map]
  rw [hl] at wk
  exact wk
theorem in_two (g e l : Str) : (!inV (.str g) [.str e, .str l]) = decide (g ≠ e ∧ g ≠ l) := by
  rw [show [V.str e, V.str l] = [e, l].map V.str from rfl, inV_strs, Bool.eq_iff_iff, Bool.not_eq_true', decide_eq_false_iff_not, decide_eq_true_iff, List.mem_cons, List.mem_singleton, not_or]
theorem any_some {ps : List Str} {S : Str → Str → Option Int} {tie : LRow} {r : SR} (rin : ∀ j ∈ r.map (·.1), j ∈ ps) (rg : ∀ l, getR r l = S tie.1 l) {f : Str → Bool} (hf : ∀ p, f p = ((S p tie.2.1).isSome && decide (p ≠ tie.1 ∧ p ≠ tie.2.1))) {k : Str → Bool} (hk : ∀ p a b, S tie.1 p = some a → S p tie.2.1 = some b → k p = decide (a + b = tie.2.2)) :
    ((((r.map (·.1)).filter f).map k).any id) = ps.any (roundB S tie) := by
  rw [Bool.eq_iff_iff, List.any_eq_true, List.any_eq_true]
  constructor
  · rintro ⟨b, hb, hb2⟩
    obtain ⟨p, hp, rfl⟩ := List.mem_map.mp hb
    obtain ⟨h1, h2⟩ := List.mem_filter.mp hp
    refine ⟨p, rin p h1, ?_⟩
    obtain ⟨a, ha⟩ := Option.isSome_iff_exists.mp (keys_iff.mp h1)
    rw [rg] at ha
    rw [hf, Bool.and_eq_true_iff] at h2
    obtain ⟨c, hc⟩ := Option.isSome_iff_exists.mp h2.1
    unfold roundB
    rw [ha, hc]
    dsimp only
    have hb2 : k p = true := hb2
    rw [hk p a c ha hc] at hb2
    rw [h2.2, hb2]
    rfl
  · rintro ⟨p, hp, h⟩
    unfold roundB at h
    split at h
    · rename_i a b ha hb
      rw [Bool.and_eq_true_iff] at h
      refine ⟨k p, List.mem_map_of_mem (List.mem_filter.mpr ⟨keys_iff.mpr (by rw [rg, ha]; rfl), ?_⟩), ?_⟩
      · rw [hf, hb, h.1]
        rfl
      · show k p = true
        rw [hk p a b ha hb]
        exact h.2
    · cases h
def spRound : Sp := fun vs H Q _ => ∃ (q t : Addr) (ps : List Str) (S : Str → Str → Option Int) (tie : LRow), vs = [.ref q, .ref t] ∧ SmAt H q ps S ∧ ps.length ≤ 9 ∧ H t = some (.tup (rowV tie)) ∧ tie.1 ∈ ps ∧ tie.2.1 ∈ ps ∧ ∀ H', Same H H' → Q (.bl (ps.any (roundB S tie))) H'
theorem ok_leads_round {f : Addr} {fd : FuncData} (F : Fun K "leads_round" "leads_round" s_leads_round f fd) (T : Txt mg) : FnOk P w K mg base CX0 1 f fd ["sums", "tie"] spRound := by
  have nd := sc_leads_round.nd
  refine F.ok sc_leads_round (fun vs H Q E h => ?_) (fun cdv A outer s H vs Q E hr h => ?_)
  · obtain ⟨_, _, _, _, _, rfl, _⟩ := h
    rfl
  · obtain ⟨q, t, ps, S, tie, rfl, hS, hl9, ht, h1, h2, qq⟩ := h
    have hu := hu_of hr
    refine ⟨_, (pss_cons (ps_asg (pv 1) (pg_tup rfl (pgs_cons (pg_name (i := 2) nd rfl (Or.inr rfl)) (pgs_cons (pg_name (i := 3) nd rfl (Or.inr rfl)) (pgs_cons (pg_name (i := 4) nd rfl (Or.inr rfl)) pgs_nil)))))
      (pss_cons (ps_set (i := 5) nd rfl (Or.inr rfl) (pe_dget hu (pv 0) (pv 2) (fun _ _ => rfl)))
      (pss_cons (ps_lock (ps_setLc (i := 6) (y := "places") (own := [("place", 7)]) (g := gName 7) rfl nd rfl rfl (sw_true rfl rfl rfl (by decide +kernel)) (pi_keys (pv 5)) (blkOk_by (N := ["sums", "tie", "earlier", "later", "lag", "ahead", "places", "place"]) (sc := defScope s_leads_round) (by decide +kernel)) (fun _ _ _ _ _ => pg_name (i := 7) nd rfl (Or.inl rfl)) (fun _ _ _ _ _ => pts_one (PW.pt (pw_and (pt_cmp (pc_din hu (pv 3) (pe_dget hu (pv 0) (pv 7) (fun _ _ => rfl))) (by rfl)) (pw_and1 (pt_cmpR (oNotIn K) (pv 7) (pe_tup (pa_cons (pv 2) (pa_cons (pv 3) pa_nil))) (by rfl)))))) (fun _ _ _ _ _ => (pv 7))))
      (pss_one (ps_ret (pe_callB (cr_any rfl) (by rfl) T.m_any PyProof.Rows.boot_any (pa_cons (pe_lc (own := [("place", 7)]) (g := gName 7) (tt := tYes) rfl nd (pi_list (pv 6)) (blkOk_by (N := ["sums", "tie", "earlier", "later", "lag", "ahead", "places", "place"]) (sc := defScope s_leads_round) (by decide +kernel)) (fun _ _ _ _ _ => pg_name (i := 7) nd rfl (Or.inl rfl)) (fun _ _ _ _ _ => pts_nil) (fun _ _ _ _ _ => (pe_cmpR op_eq (pe_op oAdd (pe_dget hu (pv 5) (pv 7) (fun _ _ => rfl)) (pe_dget hu (pe_dget hu (pv 0) (pv 7) (fun _ _ => rfl)) (pv 3) (fun _ _ => rfl))) (pv 4) (by rfl)))) pa_nil))))))), ?_⟩
    refine seq_asg ?_
    refine ⟨_, rfl, t, _, rfl, .inl (.inl ht), rfl, _, _, rfl, _, _, rfl, _, _, rfl, rfl, ?_⟩
    obtain ⟨a, r, g1, g2, rnd, rin, rg, g3⟩ := hS.row h1
    refine gname (seq_asg ?_)
    refine ⟨_, rfl, _, rfl, q, _, rfl, g1, ?_⟩
    refine gname ?_
    refine ⟨a, _, g2, True.intro, fun od => ?_⟩
    have hG := hS.lock (od := od) g2
    have hL : (upd H a (.frz od (.dK (kvR V.int r)))) a = some (.frz od (.dK (kvR V.int r))) := upd_same
    have unl : ∀ {H'}, Same (upd H a (.frz od (.dK (kvR V.int r)))) H' → Same H (upd H' a (.dK (kvR V.int r))) := fun s => unlock_same g2 s
    have fr : ∀ {b}, (upd H a (.frz od (.dK (kvR V.int r)))) b = none → H b = none ∧ b ≠ a := fun {b} hb => by
      have : b ≠ a := fun z => by rw [z, hL] at hb; cases hb
      rw [upd_ne this] at hb
      exact ⟨hb, this⟩
    revert hG hL unl fr
    generalize upd H a (.frz od (.dK (kvR V.int r))) = H2
    intro hG hL unl fr
    have hkl : (r.map (·.1)).length ≤ 9 := Nat.le_trans (nodup_le rnd rin) hl9
    refine ⟨_, rfl, a, od, rfl, .inl ⟨_, hL, fun D hD => ?_⟩⟩
    refine lc_flt (fun g => (S g tie.2.1).isSome && decide (g ≠ tie.1 ∧ g ≠ tie.2.1)) (walk_kvR (v := a) (od := od) (r := r)) hD (fun H' s => s _ _ hL) (fun _ => rfl) (fun g hg H' s' N hN => ?_) (fun g H' N hN => ⟨_, rfl, hN⟩) (fun H' s' hH' => ?_)
    · obtain ⟨b, kvs, d1, d2, d3⟩ := hG.same s' g (rin g hg)
      refine ⟨_, rfl, _, rfl, _, rfl, q, _, rfl, d1, b, _, rfl, d3 tie.2.1, _, rfl, ?_⟩
      rw [isSome_int]
      cases hs : (S g tie.2.1).isSome with
      | false =>
        refine iteF ?_
        have := hN H' (Same.refl _)
        rw [hs] at this
        exact this
      | true =>
        refine iteT ?_
        refine ⟨_, rfl, _, rfl, _, rfl, sz 2, fun T nT => .inr ⟨T, _, rfl, .inr (.inl (.inl upd_same)), rfl, rfl, _, rfl, ?_⟩⟩
        have := hN _ (same_upd nT (o := .tup [.str tie.1, .str tie.2.1]))
        rw [hs, Bool.true_and, ← in_two] at this
        exact this
    · have s15 := unl s'
      have kD : (upd H' a (.dK (kvR V.int r))) D = some (.lst (((r.map (·.1)).filter fun g => (S g tie.2.1).isSome && decide (g ≠ tie.1 ∧ g ≠ tie.2.1)).map V.str)) := by
        rw [upd_ne (fr hD).2]
        exact hH'
      refine ⟨s' _ _ hL, ?_⟩
      revert s15 kD
      generalize upd H' a (.dK (kvR V.int r)) = H5
      intro s15 kD
      have hS5 := hS.same s15
      have hG5 := hS5.g
      have g35 : ∀ l, DGet H5 a (.str l) ((S tie.1 l).map V.int) := fun l => dget_same (g3 l) s15
      clear hH' s' hD fr unl hL hG
      dsimp only
      generalize hev : (r.map (·.1)).filter (fun g => (S g tie.2.1).isSome && decide (g ≠ tie.1 ∧ g ≠ tie.2.1)) = es at kD
      have hes : ∀ g ∈ es, ∃ a b, S tie.1 g = some a ∧ S g tie.2.1 = some b := fun g hg => by
        rw [← hev] at hg
        obtain ⟨k1, k2⟩ := List.mem_filter.mp hg
        obtain ⟨x, hx⟩ := Option.isSome_iff_exists.mp (keys_iff.mp k1)
        rw [rg] at hx
        rw [Bool.and_eq_true_iff] at k2
        obtain ⟨y, hy⟩ := Option.isSome_iff_exists.mp k2.1
        exact ⟨x, y, hx, hy⟩
      have hesp : ∀ g ∈ es, g ∈ ps := fun g hg => by
        rw [← hev] at hg
        exact rin g (List.mem_filter.mp hg).1
      have hesl : es.length ≤ 9 := by
        rw [← hev]
        exact Nat.le_trans (List.length_filter_le _ _) hkl
      refine ⟨_, rfl, D, rfl, ⟨_, .inl (.inl kD)⟩, fun D2 nD2 => ?_⟩
      refine lc_it (walk_list (K := K) (a := D) (xs := es.map V.str)) (fun i H' => Same H5 H' ∧ H' D2 = some (.lst (((es.take i).map fun p => match S tie.1 p, S p tie.2.1 with | some a, some b => decide (a + b = tie.2.2) | _, _ => false).map V.bl))) ⟨same_upd nD2, upd_same⟩ (fun i H' _ pv => .inl (.inl (pv.1 _ _ kD))) (fun i x H6' H6 hi pv yv => ?_) (fun H6 pv => ?_)
      · obtain ⟨rfl, hx⟩ := yv
        obtain ⟨s6, hD6⟩ := pv
        obtain ⟨g, hg, rfl⟩ := strs_get hx
        have hgm := List.mem_of_getElem? hg
        obtain ⟨x, y, hx1, hy1⟩ := hes g hgm
        obtain ⟨b, kvs, d1, d2, d3⟩ := hG5.same s6 g (hesp g hgm)
        have dx : DGet H6 a (.str g) (some (.int x)) := by
          have := dget_same (g35 g) s6
          rw [hx1] at this
          exact this
        have dy : DGet H6 b (.str tie.2.1) (some (.int y)) := by
          have := d3 tie.2.1
          rw [hy1] at this
          exact this
        refine ⟨rfl, _, rfl, _, rfl, a, _, rfl, dx, _, rfl, _, rfl, q, _, rfl, d1, _, rfl, b, _, rfl, dy, .inl ⟨_, _, rfl, rfl, _, rfl, rfl, ?_⟩⟩
        refine ⟨_, hD6, ?_, same_put nD2 s6, ?_⟩
        · rw [List.length_map, List.length_map, List.length_take]
          exact Nat.lt_of_le_of_lt (Nat.min_le_right _ _) (Nat.lt_of_lt_of_le (by omega) (sz 10))
        · rw [upd_same, List.take_add_one, hg, List.map_append, List.map_append]
          show some (HO.lst (_ ++ [V.bl (decide (V.int (x + y) = V.int tie.2.2))])) = some (HO.lst (_ ++ [V.bl (match S tie.1 g, S g tie.2.1 with | some a, some b => decide (a + b = tie.2.2) | _, _ => false)]))
          rw [hx1, hy1]
          have : decide (V.int (x + y) = V.int tie.2.2) = decide (x + y = tie.2.2) := decide_eq_decide.mpr ⟨fun z => V.int.inj z, fun z => by rw [z]⟩
          rw [this]
      · obtain ⟨s6, hD6⟩ := pv
        rw [List.length_map, List.take_length] at hD6
        refine ⟨D2, _, rfl, .inl (.inl hD6), ?_⟩
        rw [← hev, any_some (S := S) (tie := tie) rin rg (fun _ => rfl) (fun p a b ha hb => by rw [ha, hb])]
        exact qq H6 (Same.trans s15 s6)

end
end Pk

set_option Elab.async false
set_option linter.all false
set_option maxRecDepth 100000
set_option maxHeartbeats 4000000
namespace Pk
open PySem PySem.Spec PyProof.Rows L2 Pu
abbrev s_is_reached : Stmt := topS 55
theorem sc_is_reached : FnScope ["steps", "first", "last", "reached", "found", "place", "further"] ["steps", "first", "last"] (defScope s_is_reached) := ⟨rfl, rfl, rfl, by decide +kernel, rfl, by decide +kernel, by decide +kernel⟩

section
variable {P : Program} {w : World} {K : PySem.W.Frag} {mg : Str → Option Value} {base : Heap}
/-! ### what events wait for -/
def kvB (ks : List Str) : List (Key × V) := ks.map fun k => (.inr k, .bl true)
theorem kvB_get {ks : List Str} {e : Str} : (valV (kvB ks) (.inr e)).isSome = decide (e ∈ ks) := by
  induction ks with
  | nil => rfl
  | cons k r ih =>
    show (valV ((.inr k, .bl true) :: kvB r) (.inr e)).isSome = _
    by_cases z : k = e
    · rw [valV_pos (show (Sum.inr k : Key) = .inr e by rw [z])]
      exact (decide_eq_true (z ▸ List.mem_cons_self ..)).symm
    · rw [valV_neg (fun y => z (Sum.inr.inj y)), ih]
      refine decide_eq_decide.mpr ⟨fun h => List.mem_cons_of_mem _ h, fun h => ?_⟩
      rcases List.mem_cons.mp h with h | h
      · exact absurd h.symm z
      · exact h
theorem kvB_put {ks : List Str} {a : Str} : putK (kvB ks) (.inr a) (.bl true) = kvB (addK ks a) := by
  unfold addK
  by_cases h : a ∈ ks
  · rw [if_pos h]
    unfold putK
    rw [if_pos (List.any_eq_true.mpr ⟨(.inr a, .bl true), List.mem_map_of_mem (f := fun k => ((.inr k : Key), V.bl true)) h, decide_eq_true rfl⟩)]
    refine (List.map_congr_left fun p hp => ?_).trans (List.map_id _)
    obtain ⟨k, hk, rfl⟩ := List.mem_map.mp hp
    dsimp only
    split
    · rfl
    · rfl
  · rw [if_neg h, putK_new]
    · unfold kvB
      rw [List.map_append]
      rfl
    · have := kvB_get (ks := ks) (e := a)
      rw [decide_eq_false h] at this
      exact Option.isNone_iff_eq_none.mp (by rw [← Option.not_isSome, this]; rfl)
theorem kvB_at {H : Hp} {D : Addr} {ks : List Str} (h : H D = some (.dK (kvB ks))) (e : Str) : DGet H D (.str e) (valV (kvB ks) (.inr e)) := .inl ⟨kvB ks, .inr e, .inl h, rfl, rfl⟩
def keysL (some : List Str) : List Str := some.foldl addK []
theorem keys_mem {some : List Str} : ∀ {ks : List Str} {a : Str}, a ∈ some.foldl addK ks ↔ a ∈ ks ∨ a ∈ some := by
  induction some with
  | nil => intro ks a; exact ⟨.inl, fun h => h.elim id fun z => absurd z List.not_mem_nil⟩
  | cons x r ih =>
    intro ks a
    show a ∈ r.foldl addK (addK ks x) ↔ _
    rw [ih, addK_mem, List.mem_cons, or_assoc]
theorem keys_nd {some : List Str} : ∀ {ks : List Str}, ks.Nodup → (some.foldl addK ks).Nodup := by
  induction some with
  | nil => exact fun h => h
  | cons x r ih => exact fun h => ih (ks := addK _ x) (addK_nd h)
theorem kvB_len {ks evs : List Str} (nd : ks.Nodup) (h : ∀ a ∈ ks, a ∈ evs) (hl : evs.length ≤ 8) : (kvB ks).length < sizeLine := by
  unfold kvB
  rw [List.length_map]
  have := nodup_len nd h
  exact Nat.lt_of_lt_of_le (by omega) (sz 1000)
/-! ### what is reached along steps -/
def StepsAt (H : Hp) (ts : List Addr) (st : List (Str × Str)) : Prop := Paired (fun a s => H a = some (.tup [.str s.1, .str s.2])) ts st
theorem StepsAt.keep {H H' : Hp} {ts : List Addr} {st : List (Str × Str)} (h : StepsAt H ts st) (k : ∀ a xs, H a = some (.tup xs) → H' a = some (.tup xs)) : StepsAt H' ts st := by
  unfold StepsAt at *
  induction h with
  | nil => exact .nil
  | cons r _ ih => exact .cons (k _ _ r) ih
theorem StepsAt.same {H H' : Hp} {ts : List Addr} {st : List (Str × Str)} (h : StepsAt H ts st) (s : Same H H') : StepsAt H' ts st := h.keep fun _ _ e => s _ _ e
theorem StepsAt.snoc {H : Hp} {ts : List Addr} {st : List (Str × Str)} {t : Addr} {s : Str × Str} (h : StepsAt H ts st) (h1 : H t = some (.tup [.str s.1, .str s.2])) : StepsAt H (ts ++ [t]) (st ++ [s]) := by
  unfold StepsAt at *
  induction h with
  | nil => exact .cons h1 .nil
  | cons r _ ih => exact .cons r ih
theorem StepsAt.get {H : Hp} {ts : List Addr} {st : List (Str × Str)} (h : StepsAt H ts st) : ∀ {i : Nat} {x : V}, (ts.map V.ref)[i]? = some x → ∃ t s, x = .ref t ∧ st[i]? = some s ∧ H t = some (.tup [.str s.1, .str s.2]) := by
  unfold StepsAt at h
  induction h with
  | nil => intro i x e; simp at e
  | @cons a r as bs q _ ih =>
    intro i x e
    cases i with
    | zero =>
      have e : some (V.ref a) = some x := e
      cases e
      exact ⟨a, r, rfl, rfl, q⟩
    | succ i => exact ih (i := i) (x := x) e
def nextF (st : List (Str × Str)) (ks : List Str) : List Str := (st.filter fun s => decide (s.1 ∈ ks) && !decide (s.2 ∈ ks)).map (·.2)
theorem nextF_mem {st : List (Str × Str)} {ks : List Str} {x : Str} : x ∈ nextF st ks ↔ (∃ k ∈ ks, (k, x) ∈ st) ∧ x ∉ ks := by
  unfold nextF
  rw [List.mem_map]
  constructor
  · rintro ⟨⟨a, b⟩, h, rfl⟩
    obtain ⟨h1, h2⟩ := List.mem_filter.mp h
    rw [Bool.and_eq_true_iff, Bool.not_eq_true'] at h2
    exact ⟨⟨a, of_decide_eq_true h2.1, h1⟩, of_decide_eq_false h2.2⟩
  · rintro ⟨⟨k, hk, h1⟩, h2⟩
    refine ⟨(k, x), List.mem_filter.mpr ⟨h1, ?_⟩, rfl⟩
    rw [Bool.and_eq_true_iff, Bool.not_eq_true']
    exact ⟨decide_eq_true hk, decide_eq_false h2⟩
/-- what is known while the search goes on -/
structure RInv (ps : List Str) (st : List (Str × Str)) (f : Str) (ks fd : List Str) : Prop where
  nd : ks.Nodup
  ps : ∀ k ∈ ks, k ∈ ps
  rc : ∀ k ∈ ks, Rc st f k
  beg : f ∈ ks
  fin : fd = [] → ∀ k ∈ ks, ∀ x, (k, x) ∈ st → x ∈ ks
theorem RInv.iff {ps : List Str} {st : List (Str × Str)} {f : Str} {ks : List Str} (h : RInv ps st f ks []) (l : Str) : l ∈ ks ↔ Rc st f l := by
  constructor
  · exact h.rc l
  · intro hr
    induction hr with
    | nil => exact h.beg
    | snoc _ r ih => exact h.fin rfl _ ih _ r
theorem foldK_len {fd : List Str} : ∀ {ks : List Str}, ks.length ≤ (fd.foldl addK ks).length := by
  induction fd with
  | nil => exact Nat.le_refl _
  | cons x r ih =>
    intro ks
    refine Nat.le_trans ?_ (ih (ks := addK ks x))
    unfold addK
    split
    · exact Nat.le_refl _
    · rw [List.length_append]
      exact Nat.le_add_right _ _
theorem RInv.step {ps : List Str} {st : List (Str × Str)} {f : Str} {ks fd : List Str} (h : RInv ps st f ks fd) (hin : ∀ s ∈ st, s.2 ∈ ps) : RInv ps st f ((nextF st ks).foldl addK ks) (nextF st ks) ∧ (nextF st ks ≠ [] → ks.length < ((nextF st ks).foldl addK ks).length) := by
  refine ⟨⟨keys_nd h.nd, fun k hk => ?_, fun k hk => ?_, keys_mem.mpr (.inl h.beg), fun e k hk x hx => ?_⟩, fun ne => ?_⟩
  · rcases keys_mem.mp hk with hk | hk
    · exact h.ps k hk
    · obtain ⟨⟨j, hj, hs⟩, _⟩ := nextF_mem.mp hk
      exact hin _ hs
  · rcases keys_mem.mp hk with hk | hk
    · exact h.rc k hk
    · obtain ⟨⟨j, hj, hs⟩, _⟩ := nextF_mem.mp hk
      exact (h.rc j hj).snoc hs
  · rw [e] at hk ⊢
    have hk : k ∈ ks := hk
    show x ∈ ks
    by_cases z : x ∈ ks
    · exact z
    · have : x ∈ nextF st ks := nextF_mem.mpr ⟨⟨k, hk, hx⟩, z⟩
      rw [e] at this
      cases this
  · cases hn : nextF st ks with
    | nil => exact absurd hn ne
    | cons x r =>
      have hx : x ∉ ks := (nextF_mem.mp (show x ∈ nextF st ks by rw [hn]; exact List.mem_cons_self ..)).2
      refine Nat.lt_of_lt_of_le ?_ (foldK_len (fd := r) (ks := addK ks x))
      unfold addK
      rw [if_neg hx, List.length_append]
      exact Nat.lt_succ_self _
def spReach : Sp := fun vs H Q _ => ∃ (q : Addr) (ts : List Addr) (st : List (Str × Str)) (ps : List Str) (f l : Str), vs = [.ref q, .str f, .str l] ∧ H q = some (.lst (ts.map V.ref)) ∧ StepsAt H ts st ∧ (∀ s ∈ st, s.2 ∈ ps) ∧ f ∈ ps ∧ ps.length ≤ 9 ∧ st.length ≤ 1000 ∧ ∀ b H', Same H H' → (b = true ↔ Rc st f l) → Q (.bl b) H'
theorem ok_is_reached {f : Addr} {fd : FuncData} (F : Fun K "is_reached" "is_reached" s_is_reached f fd) (T : Txt mg) : FnOk P w K mg base CX0 1 f fd ["steps", "first", "last"] spReach := by
  have nd := sc_is_reached.nd
  refine F.ok sc_is_reached (fun vs H Q E h => ?_) (fun cdv A outer s H vs Q E hr h => ?_)
  · obtain ⟨_, _, _, _, _, _, rfl, _⟩ := h
    rfl
  · obtain ⟨q, ts, st, ps, a, l, rfl, hq, hst, hin, ha, h9, hsl, qq⟩ := h
    have hu := hu_of hr
    refine ⟨_, (pss_cons (ps_set (i := 3) nd rfl (Or.inr rfl) (pe_disp (pps_cons (pv 1) pe_bl pps_nil) (by rfl) (by rfl) (by simp) (by decide)))
      (pss_cons (ps_set (i := 4) nd rfl (Or.inl rfl) (pe_lst (pa_cons (pv 1) pa_nil)))
      (pss_cons (ps_while PassesOwn.never (pt_truth (pv 4) (fun _ => rfl))
      (pss_cons (ps_setLc (i := 4) (y := "found") (own := [("place", 5), ("further", 6)]) (g := (gTup K 2 (gCons (gName 5) (gCons (gName 6) gNil)))) rfl nd rfl rfl (sw_true rfl rfl rfl (by decide +kernel)) (pi_list (pv 0)) (blkOk_by (N := ["steps", "first", "last", "reached", "found", "place", "further"]) (sc := defScope s_is_reached) (by decide +kernel)) (fun _ _ _ _ _ => (pg_tup rfl (pgs_cons (pg_name (i := 5) nd rfl (Or.inl rfl)) (pgs_cons (pg_name (i := 6) nd rfl (Or.inl rfl)) pgs_nil)))) (fun _ _ _ _ _ => pts_one (PW.pt (pw_and (pt_cmp (pc_din hu (pv 5) (pv 3)) (by rfl)) (pw_and1 (pt_cmp (pc_dnotin hu (pv 6) (pv 3)) (by rfl)))))) (fun _ _ _ _ _ => (pv 6)))
      (pss_one (ps_for PassesOwn.never rfl (pi_list (pv 4)) (pg_name (i := 5) nd rfl (Or.inl rfl))
      (pss_one (ps_dput hu (pv 3) (pv 5) pe_bl rfl))))))
      (pss_one (ps_ret (pe_cmp (pc_din hu (pv 2) (pv 3)) (by rfl))))))), ?_⟩
    refine seq_asg ?_
    refine fun D nD => ⟨_, rfl, upd_same, [(.inr a, .bl true)], rfl, by show 1 ≤ 15; decide, ?_⟩
    rw [upd_upd]
    have kD1 : (upd H D (.dK (mergeK [] [(.inr a, .bl true)]))) D = some (.dK (kvB [a])) := upd_same
    have s1 := same_upd nD (o := .dK (mergeK [] [(.inr a, .bl true)]))
    revert kD1 s1
    generalize upd H D (.dK (mergeK [] [(.inr a, .bl true)])) = H1
    intro kD1 s1
    refine gname (seq_asg ?_)
    refine ⟨_, rfl, sz 1, fun L nL => ?_⟩
    have s2 := Same.trans s1 (same_upd nL (o := .lst [.str a]))
    have kD2 := same_upd nL (o := .lst [.str a]) _ _ kD1
    have kL2 : (upd H1 L (.lst [.str a])) L = some (.lst ([a].map V.str)) := upd_same
    revert kD2 s2 kL2
    generalize upd H1 L (.lst [.str a]) = H2
    intro s2 kD2 kL2
    refine gname (seq_st ?_)
    refine ⟨fun m σ H' => ∃ ks fd L v5 v6, Same H H' ∧ σ = [some (.ref q), some (.str a), some (.str l), some (.ref D), some (.ref L), v5, v6] ∧ H' D = some (.dK (kvB ks)) ∧ H' L = some (.lst (fd.map V.str)) ∧ RInv ps st a ks fd ∧ m = 2 * (9 - ks.length) + (if fd = [] then 0 else 1), ⟨_, [a], [a], L, _, _, s2, rfl, kD2, kL2, ⟨by simp, fun k hk => by rw [List.mem_singleton.mp hk]; exact ha, fun k hk => by rw [List.mem_singleton.mp hk]; exact .nil, List.mem_singleton.mpr rfl, fun z => nomatch z⟩, rfl⟩, ?_⟩
    rintro m σ H3 ⟨ks, fd, L, v5, v6, s3, rfl, kD3, kL3, hI, rfl⟩
    refine ⟨_, rfl, !decide (fd = []), .inl ⟨_, .inl (.inl kL3), by cases fd <;> rfl⟩, ?_⟩
    have hkl : ks.length ≤ 9 := Nat.le_trans (nodup_le hI.nd hI.ps) h9
    refine ite2 (fun e => ?_) (fun e => ?_)
    · have hfd : fd ≠ [] := fun z => by rw [z] at e; exact absurd e (by decide)
      refine ⟨fun σ' H' => ∃ m', m' < 2 * (9 - ks.length) + (if fd = [] then 0 else 1) ∧ ∃ ks fd L v5 v6, Same H H' ∧ σ' = [some (.ref q), some (.str a), some (.str l), some (.ref D), some (.ref L), v5, v6] ∧ H' D = some (.dK (kvB ks)) ∧ H' L = some (.lst (fd.map V.str)) ∧ RInv ps st a ks fd ∧ m' = 2 * (9 - ks.length) + (if fd = [] then 0 else 1), fun _ _ h => h, ?_⟩
      rw [if_neg hfd]
      clear kD1 kD2 kL2 nL s1 s2
      have hq3 := s3 _ _ hq
      have hst3 := hst.same s3
      refine seq_asg ?_
      refine ⟨_, rfl, q, rfl, ⟨_, .inl (.inl hq3)⟩, fun L2 nL2 => ?_⟩
      refine lc_it (walk_list (K := K) (a := q) (xs := ts.map V.ref)) (fun i H' => Same H3 H' ∧ H' L2 = some (.lst ((nextF (st.take i) ks).map V.str))) ⟨same_upd nL2, upd_same⟩ (fun i H' _ pv => .inl (.inl (pv.1 _ _ hq3))) (fun i x H4' H4 hi pv yv => ?_) (fun H4 pv => ?_)
      · obtain ⟨rfl, hx⟩ := yv
        obtain ⟨s4, hD4⟩ := pv
        obtain ⟨t, u, rfl, hu1, htu⟩ := (hst3.same s4).get hx
        have hkD := s4 _ _ kD3
        have hti : st.take (i + 1) = st.take i ++ [u] := by rw [List.take_add_one, hu1]; rfl
        refine ⟨t, _, rfl, .inl (.inl htu), rfl, _, _, rfl, _, _, rfl, rfl, rfl, _, rfl, _, rfl, D, _, rfl, kvB_at hkD u.1, _, rfl, ?_⟩
        rw [kvB_get]
        have hno : (decide (u.1 ∈ ks) && !decide (u.2 ∈ ks)) = false → nextF (st.take (i + 1)) ks = nextF (st.take i) ks := fun z => by
          unfold nextF
          rw [hti, List.filter_append, List.map_append]
          rw [show [u].filter (fun s => decide (s.1 ∈ ks) && !decide (s.2 ∈ ks)) = [] from by rw [List.filter_cons, if_neg (by rw [z]; decide), List.filter_nil]]
          exact List.append_nil _
        have hyes : (decide (u.1 ∈ ks) && !decide (u.2 ∈ ks)) = true → nextF (st.take (i + 1)) ks = nextF (st.take i) ks ++ [u.2] := fun z => by
          unfold nextF
          rw [hti, List.filter_append, List.map_append]
          rw [show [u].filter (fun s => decide (s.1 ∈ ks) && !decide (s.2 ∈ ks)) = [u] from by rw [List.filter_cons, if_pos z, List.filter_nil]]
          rfl
        cases h1 : decide (u.1 ∈ ks) with
        | false =>
          refine iteF ?_
          show Same H3 H4 ∧ H4 L2 = _
          rw [hno (by rw [h1]; rfl)]
          exact ⟨s4, hD4⟩
        | true =>
          refine iteT ?_
          refine ⟨_, rfl, _, rfl, D, _, rfl, kvB_at hkD u.2, _, rfl, ?_⟩
          rw [kvB_get]
          cases h2 : decide (u.2 ∈ ks) with
          | true =>
            refine iteF ?_
            show Same H3 H4 ∧ H4 L2 = _
            rw [hno (by rw [h1, h2]; rfl)]
            exact ⟨s4, hD4⟩
          | false =>
            refine iteT ?_
            refine ⟨_, rfl, _, hD4, ?_, same_put nL2 s4, ?_⟩
            · rw [List.length_map]
              unfold nextF
              rw [List.length_map]
              exact Nat.lt_of_le_of_lt (Nat.le_trans (List.length_filter_le _ _) (Nat.le_trans (by rw [List.length_take]; exact Nat.min_le_right _ _) hsl)) (Nat.lt_of_lt_of_le (by decide) (sz 1001))
            · rw [upd_same, hyes (by rw [h1, h2]; rfl), List.map_append]
              rfl
      · obtain ⟨s4, hD4⟩ := pv
        rw [List.length_map, Paired.length hst, List.take_length] at hD4
        have hstep := hI.step hin
        have s34 := Same.trans s3 s4
        have kD4 := s4 _ _ kD3
        refine gname ?_
        have hLD : L2 ≠ D := fun z => by rw [z, kD3] at nL2; cases nL2
        have hfl : (nextF st ks).length ≤ 1000 := by
          unfold nextF
          rw [List.length_map]
          exact Nat.le_trans (List.length_filter_le _ _) hsl
        refine ⟨_, rfl, L2, rfl, ⟨_, .inl (.inl hD4)⟩, ?_⟩
        refine for_it (walk_list (K := K) (a := L2) (xs := (nextF st ks).map V.str)) (fun i σ H' => Same H H' ∧ H' L2 = some (.lst ((nextF st ks).map V.str)) ∧ H' D = some (.dK (kvB (((nextF st ks).take i).foldl addK ks))) ∧ ∃ v5 v6, σ = [some (.ref q), some (.str a), some (.str l), some (.ref D), some (.ref L2), v5, v6]) ⟨s34, hD4, kD4, _, _, rfl⟩ (fun i σ H' _ pv => .inl (.inl pv.2.1)) (fun i x σ H5' H5 hi pv yv => ?_) (fun σ H5 pv => ?_)
        · obtain ⟨rfl, hx⟩ := yv
          obtain ⟨s5, kL5, kD5, v5, v6, rfl⟩ := pv
          obtain ⟨g, hg, rfl⟩ := strs_get hx
          have htk : (nextF st ks).take (i + 1) = (nextF st ks).take i ++ [g] := by rw [List.take_add_one, hg]; rfl
          have hlen : (kvB (((nextF st ks).take i).foldl addK ks)).length < sizeLine := by
            unfold kvB
            rw [List.length_map]
            refine Nat.lt_of_le_of_lt (nodup_le (keys_nd hI.nd) (ys := ps) fun k hk => ?_) (Nat.lt_of_lt_of_le (by omega) (sz 10))
            rcases keys_mem.mp hk with hk | hk
            · exact hI.ps k hk
            · obtain ⟨⟨j, hj, hs⟩, _⟩ := nextF_mem.mp (List.mem_of_mem_take hk)
              exact hin _ hs
          refine gname ?_
          refine ⟨_, rfl, _, rfl, D, _, rfl, .inl ⟨_, .inr g, kD5, rfl, hlen, rfl⟩, ?_⟩
          refine ⟨same_put nD s5, by rw [upd_ne hLD]; exact kL5, ?_, _, _, rfl⟩
          rw [upd_same, kvB_put, htk, List.foldl_append]
          rfl
        · obtain ⟨s5, kL5, kD5, v5, v6, rfl⟩ := pv
          rw [List.length_map, List.take_length] at kD5
          refine ⟨_, ?_, _, _, _, _, _, s5, rfl, kD5, kL5, hstep.1, rfl⟩
          by_cases z : nextF st ks = []
          · rw [z]
            show 2 * (9 - ks.length) + 0 < _
            omega
          · have := hstep.2 z
            have h10 : ((nextF st ks).foldl addK ks).length ≤ 9 := Nat.le_trans (nodup_le hstep.1.nd hstep.1.ps) h9
            rw [if_neg z]
            omega
    · have hfd : fd = [] := by
        by_cases z : fd = []
        · exact z
        · rw [decide_eq_false z] at e
          exact absurd rfl e
      subst hfd
      refine ⟨_, rfl, _, rfl, D, _, rfl, kvB_at kD3 l, ?_⟩
      rw [kvB_get]
      exact qq _ H3 s3 (by rw [decide_eq_true_iff]; exact hI.iff l)

end
end Pk

set_option Elab.async false
set_option linter.all false
set_option maxRecDepth 100000
set_option maxHeartbeats 4000000
namespace Pk
open PySem PySem.Spec PyProof.Rows L2 Pu
abbrev s_follows : Stmt := topS 56
theorem sc_follows : FnScope ["sums", "others", "tie", "earlier", "later", "lag", "ahead", "steps", "first", "last", "added"] ["sums", "others", "tie"] (defScope s_follows) := ⟨rfl, rfl, rfl, by decide +kernel, rfl, by decide +kernel, by decide +kernel⟩

section
variable {P : Program} {w : World} {K : PySem.W.Frag} {mg : Str → Option Value} {base : Heap}
/-! ### whether a tie follows from other steps -/
theorem iteY {c : Bool} {A B : Prop} (hc : c = true) (h : A) : if c = true then A else B := by
  rw [hc]
  exact iteT h
def spFollows : Sp := fun vs H Q _ => ∃ (q o t : Addr) (ps : List Str) (S : Str → Str → Option Int) (R : Str → Str → Int → Prop) (ts : List Addr) (others : List LRow) (tie : LRow), vs = [.ref q, .ref o, .ref t] ∧ SmAt H q ps S ∧ ps.length ≤ 9 ∧ H o = some (.lst (ts.map V.ref)) ∧ TiesAt H ts others ∧ H t = some (.tup (rowV tie)) ∧ FolOk ps S R others tie ∧ others.length ≤ 1000 ∧ ∀ H', Same H H' → Q (.bl (fol others tie)) H'
theorem in_ties {H : Hp} {ts : List Addr} {rows : List LRow} {t : Addr} {tie : LRow} (h : TiesAt H ts rows) (ht : H t = some (.tup (rowV tie))) : ∃ bs : List Bool, bs.length = (ts.map V.ref).length ∧ (∀ (j : Nat) (z : V) (b : Bool), (ts.map V.ref)[j]? = some z → bs[j]? = some b → EqB K H 2 z (.ref t) b) ∧ bs.any id = decide (tie ∈ rows) := by
  refine ⟨rows.map fun r => decide (r = tie), by rw [List.length_map, List.length_map, h.length], fun j z b hz hb => ?_, ?_⟩
  · obtain ⟨a, r, rfl, _, hr, ha⟩ := h.get hz
    rw [List.getElem?_map, hr] at hb
    cases hb
    exact tup3_eqB (n := 0) ha ht
  · rw [List.any_map, Bool.eq_iff_iff, List.any_eq_true, decide_eq_true_iff]
    constructor
    · rintro ⟨r, hr, e⟩
      have e : decide (r = tie) = true := e
      rw [← of_decide_eq_true e]
      exact hr
    · intro h
      exact ⟨tie, h, decide_eq_true rfl⟩
theorem ok_follows {f : Addr} {fd : FuncData} (F : Fun K "follows" "follows" s_follows f fd) (T : Txt mg) (cleads_round : Cal P w K mg base 1 "leads_round" spRound []) (cis_reached : Cal P w K mg base 1 "is_reached" spReach []) : FnOk P w K mg base CX0 2 f fd ["sums", "others", "tie"] spFollows := by
  have nd := sc_follows.nd
  refine F.ok sc_follows (fun vs H Q E h => ?_) (fun cdv A outer s H vs Q E hr h => ?_)
  · obtain ⟨_, _, _, _, _, _, _, _, _, rfl, _⟩ := h
    rfl
  · obtain ⟨q, o, t, ps, S, R, ts, others, tie, rfl, hS, h9, ho, hts, ht, hF, hol, qq⟩ := h
    have hu := hu_of hr
    refine ⟨_, (pss_cons (ps_asg (pv 2) (pg_tup rfl (pgs_cons (pg_name (i := 3) nd rfl (Or.inl rfl)) (pgs_cons (pg_name (i := 4) nd rfl (Or.inr rfl)) (pgs_cons (pg_name (i := 5) nd rfl (Or.inr rfl)) pgs_nil)))))
      (pss_cons (ps_if (PW.pt (pw_or (pt_cmpR op_lt (pe_dget hu (pe_dget hu (pv 0) (pv 3) (fun _ _ => rfl)) (pv 4) (fun _ _ => rfl)) (pv 5) (by rfl)) (pw_or1 (pt_cmpR (op_inB K hr) (pv 2) (pv 1) (by rfl)))))
      (pss_one (ps_ret pe_bl)) pss_nil)
      (pss_cons (ps_if (pt_not (pt_val (pe_c cleads_round hr (by decide) rfl (pa_cons (pv 0) (pa_cons (pv 2) pa_nil)))))
      (pss_one (ps_ret pe_bl)) pss_nil)
      (pss_cons (ps_set (i := 6) nd rfl (Or.inr rfl) (pe_dget hu (pv 0) (pv 3) (fun _ _ => rfl)))
      (pss_cons (ps_setLc (i := 7) (y := "steps") (own := [("first", 8), ("last", 9), ("added", 10)]) (g := (gTup K 3 (gCons (gName 8) (gCons (gName 9) (gCons (gName 10) gNil))))) rfl nd rfl rfl (sw_true rfl rfl rfl (by decide +kernel)) (pi_list (pv 1)) (blkOk_by (N := ["sums", "others", "tie", "earlier", "later", "lag", "ahead", "steps", "first", "last", "added"]) (sc := defScope s_follows) (by decide +kernel)) (fun _ _ _ _ _ => (pg_tup rfl (pgs_cons (pg_name (i := 8) nd rfl (Or.inl rfl)) (pgs_cons (pg_name (i := 9) nd rfl (Or.inl rfl)) (pgs_cons (pg_name (i := 10) nd rfl (Or.inl rfl)) pgs_nil))))) (fun _ _ _ _ _ => pts_one (PW.pt (pw_and (pt_cmp (pc_din hu (pv 8) (pv 6)) (by rfl)) (pw_and (pt_cmp (pc_din hu (pv 4) (pe_dget hu (pv 0) (pv 9) (fun _ _ => rfl))) (by rfl)) (pw_and1 (pt_cmpR op_eq (pe_op oAdd (pe_op oAdd (pe_dget hu (pv 6) (pv 8) (fun _ _ => rfl)) (pv 10)) (pe_dget hu (pe_dget hu (pv 0) (pv 9) (fun _ _ => rfl)) (pv 4) (fun _ _ => rfl))) (pv 5) (by rfl))))))) (fun _ _ _ _ _ => (pe_tup (pa_cons (pv 8) (pa_cons (pv 9) pa_nil)))))
      (pss_one (ps_ret (pe_c cis_reached hr (by decide) rfl (pa_cons (pv 7) (pa_cons (pv 3) (pa_cons (pv 4) pa_nil))))))))))), ?_⟩
    have tin := hF.tin
    obtain ⟨v, hv, hvle⟩ := hF.lag
    obtain ⟨a, r, g1, g2, _, rin, rg, g3⟩ := hS.row tin.1
    refine seq_asg ?_
    refine ⟨_, rfl, t, _, rfl, .inl (.inl ht), rfl, _, _, rfl, _, _, rfl, _, _, rfl, rfl, ?_⟩
    refine gname ?_
    have gv : DGet H a (.str tie.2.1) (some (.int v)) := by
      have := g3 tie.2.1
      rw [hv] at this
      exact this
    refine ⟨_, rfl, _, rfl, q, _, rfl, g1, _, rfl, a, _, rfl, gv, _, rfl, _, _, rfl, rfl, _, rfl, ite2 (fun e => ?_) (fun e => ?_)⟩
    · have := qq H (Same.refl _)
      rw [fol_lt hF hv (of_decide_eq_true e)] at this
      exact iteT this
    · have hveq : v = tie.2.2 := by
        have : ¬ v < tie.2.2 := fun z => e (decide_eq_true z)
        omega
      rw [hveq] at hv
      obtain ⟨bs, b1, b2, b3⟩ := in_ties (K := K) hts ht
      refine ⟨_, rfl, _, rfl, o, _, 2, bs, rfl, .inl (.inl ho), by decide, b1, b2, _, rfl, ?_⟩
      rw [if_neg (by decide), b3]
      refine ite2 (fun e => ?_) (fun e => ?_)
      · have := qq H (Same.refl _)
        rw [fol_in (of_decide_eq_true e)] at this
        exact this
      have hnin : tie ∉ others := fun z => e (decide_eq_true z)
      refine next_of (seq_st ?_)
      refine ⟨_, rfl, _, rfl, q, t, ps, S, tie, rfl, hS, h9, ht, tin.1, tin.2.1, fun H1 s1 => ⟨_, rfl, ?_⟩⟩
      cases hrb : ps.any (roundB S tie) with
      | false =>
        refine iteT ?_
        have hno : fol others tie = false := Bool.eq_false_iff.mpr fun z => by
          obtain ⟨⟨p, hp⟩, _⟩ := fol_way hF hv hnin z
          have hpp : p ∈ ps := by
            unfold roundB at hp
            split at hp
            · rename_i x y hx hy
              exact rin p (keys_iff.mpr (by rw [rg, hx]; rfl))
            · cases hp
          have : ps.any (roundB S tie) = true := List.any_eq_true.mpr ⟨p, hpp, hp⟩
          rw [hrb] at this
          cases this
        have := qq H1 s1
        rw [hno] at this
        exact this
      | true =>
        refine iteF (next_of ?_)
        clear e b1 b2 b3 gv
        have hS1 := hS.same s1
        have ho1 := s1 _ _ ho
        have hts1 := hts.same s1
        obtain ⟨a, r, g1, g2, _, rin, rg, g3⟩ := hS1.row tin.1
        dsimp only
        refine seq_asg ?_
        refine ⟨_, rfl, _, rfl, q, _, rfl, g1, ?_⟩
        refine gname (seq_asg ?_)
        refine ⟨_, rfl, o, rfl, ⟨_, .inl (.inl ho1)⟩, fun D nD => ?_⟩
        refine lc_it (walk_list (K := K) (a := o) (xs := ts.map V.ref)) (fun i H' => Same H1 H' ∧ ∃ as, H' D = some (.lst (as.map V.ref)) ∧ StepsAt H' as (tights S tie (others.take i))) ⟨same_upd nD, [], upd_same, .nil⟩ (fun i H' _ pv => .inl (.inl (pv.1 _ _ ho1))) (fun i x H2' H2 hi pv yv => ?_) (fun H2 pv => ?_)
        · obtain ⟨rfl, hx⟩ := yv
          obtain ⟨s2, as, hD2, hA2⟩ := pv
          obtain ⟨b, u, rfl, hum, hu1, hbu⟩ := (hts1.same s2).get hx
          have hrr : R u.1 u.2.1 u.2.2 := (hF.hR _ _ _).mpr (.inl hum)
          obtain ⟨i1, i2⟩ := hF.cl.rin _ _ _ hrr
          have hti : others.take (i + 1) = others.take i ++ [u] := by rw [List.take_add_one, hu1]; rfl
          have hno : tightB S tie u = false → tights S tie (others.take (i + 1)) = tights S tie (others.take i) := fun z => by
            unfold tights
            rw [hti, List.filter_append, List.map_append]
            rw [show [u].filter (tightB S tie) = [] from by rw [List.filter_cons, if_neg (by rw [z]; decide), List.filter_nil]]
            exact List.append_nil _
          have hyes : tightB S tie u = true → tights S tie (others.take (i + 1)) = tights S tie (others.take i) ++ [(u.1, u.2.1)] := fun z => by
            unfold tights
            rw [hti, List.filter_append, List.map_append]
            rw [show [u].filter (tightB S tie) = [u] from by rw [List.filter_cons, if_pos z, List.filter_nil]]
            rfl
          refine ⟨b, _, rfl, .inl (.inl hbu), rfl, _, _, rfl, _, _, rfl, _, _, rfl, rfl, rfl, _, rfl, _, rfl, a, _, rfl, dget_same (g3 u.1) s2, _, rfl, ?_⟩
          rw [isSome_int]
          cases hx : S tie.1 u.1 with
          | none =>
            refine iteF ?_
            show Same H1 H2 ∧ _
            rw [hno (by unfold tightB; rw [hx])]
            exact ⟨s2, as, hD2, hA2⟩
          | some x =>
            refine iteT ?_
            obtain ⟨c, kvs, d1, d2, d3⟩ := hS1.g.same s2 u.2.1 i2
            refine ⟨_, rfl, _, rfl, _, rfl, q, _, rfl, d1, c, _, rfl, d3 tie.2.1, _, rfl, ?_⟩
            rw [isSome_int]
            cases hy : S u.2.1 tie.2.1 with
            | none =>
              refine iteF ?_
              show Same H1 H2 ∧ _
              rw [hno (by unfold tightB; rw [hx, hy])]
              exact ⟨s2, as, hD2, hA2⟩
            | some y =>
              refine iteT ?_
              have dx : DGet H2 a (.str u.1) (some (.int x)) := by
                have := dget_same (g3 u.1) s2
                rw [hx] at this
                exact this
              have dy : DGet H2 c (.str tie.2.1) (some (.int y)) := by
                have := d3 tie.2.1
                rw [hy] at this
                exact this
              refine ⟨_, rfl, _, rfl, a, _, rfl, dx, _, rfl, .inl ⟨_, _, rfl, rfl, _, rfl, _, rfl, q, _, rfl, d1, _, rfl, c, _, rfl, dy, .inl ⟨_, _, rfl, rfl, _, rfl, rfl, _, rfl, ?_⟩⟩⟩
              have htb : tightB S tie u = decide (x + u.2.2 + y = tie.2.2) := by unfold tightB; rw [hx, hy]
              by_cases z : x + u.2.2 + y = tie.2.2
              · refine iteY (decide_eq_true (congrArg V.int z)) ?_
                refine ⟨_, rfl, _, rfl, sz 2, fun T1 nT1 => ?_⟩
                have sT := same_upd nT1 (o := .tup [.str u.1, .str u.2.1])
                refine ⟨_, sT _ _ hD2, ?_, same_put nD (Same.trans s2 sT), as ++ [T1], by rw [upd_same, List.map_append]; rfl, ?_⟩
                · rw [List.length_map, Paired.length hA2]
                  unfold tights
                  rw [List.length_map]
                  exact Nat.lt_of_le_of_lt (Nat.le_trans (List.length_filter_le _ _) (Nat.le_trans (by rw [List.length_take]; exact Nat.min_le_right _ _) hol)) (Nat.lt_of_lt_of_le (by decide) (sz 1001))
                · rw [hyes (by rw [htb]; exact decide_eq_true z)]
                  refine ((hA2.same sT).snoc upd_same).keep fun b xs h => ?_
                  rw [upd_ne (ne_of h (sT _ _ hD2) (fun z => nomatch z))]
                  exact h
              · refine iteE (decide_eq_false fun w => z (V.int.inj w)) ?_
                rw [hno (by rw [htb]; exact decide_eq_false z)]
                exact ⟨s2, as, hD2, hA2⟩
        · obtain ⟨s2, as, hD2, hA2⟩ := pv
          rw [List.length_map, hts.length, List.take_length] at hA2
          refine gname ?_
          refine ⟨_, rfl, _, rfl, _, rfl, D, as, _, ps, _, _, rfl, hD2, hA2, fun z hz => ?_, tin.1, h9, ?_, fun b H3 s3 hb => ?_⟩
          · obtain ⟨c, hc, _⟩ := mem_tights.mp (show (z.1, z.2) ∈ _ from hz)
            exact (hF.cl.rin _ _ _ ((hF.hR _ _ _).mpr (.inl hc))).2
          · unfold tights
            rw [List.length_map]
            exact Nat.le_trans (List.length_filter_le _ _) hol
          · have hbf : b = fol others tie := by
              rw [Bool.eq_iff_iff, hb]
              exact ⟨fun z => fol_rc hF hv z, fun z => (fol_way hF hv hnin z).2⟩
            rw [hbf]
            exact qq H3 (Same.trans s1 (Same.trans s2 s3))

end
end Pk

set_option Elab.async false
set_option linter.all false
set_option maxRecDepth 100000
set_option maxHeartbeats 4000000
namespace Pk
open PySem PySem.Spec PyProof.Rows L2 Pu
abbrev s_staying : Stmt := topS 57
theorem sc_staying : FnScope ["sums", "ties", "free", "stay", "index", "others", "place"] ["sums", "ties", "free"] (defScope s_staying) := ⟨rfl, rfl, rfl, by decide +kernel, rfl, by decide +kernel, by decide +kernel⟩

section
variable {P : Program} {w : World} {K : PySem.W.Frag} {mg : Str → Option Value} {base : Heap}
/-! ### needless ties, and ties that stay -/
theorem pa_starK {X : Cx} {e : Expr} {es : List Expr} {p : Pos} {te : TE} {t : TA} (K : PySem.W.Frag) (he : PE X e te) (hr : PA X es t) (hs : starEach (.Starred e p :: es) X.env = (true, eval e X.env) :: starEach es X.env := by rfl) (h : X.K = K := by rfl) : PA X (.Starred e p :: es) (StX.tStar K te t) := by
  subst h
  exact StX.pa_star he hr hs
theorem far_cl {d : PlanD} (ok : PlanOk d) : ClS (("" : Str) :: d.evs) (farS d) (RowL (lawRows d)) :=
  ⟨fun f hf l v => far_dist ok hf l v, law_nn ok, fun f l a r => ⟨(lawRows_in ok _ r).1, (lawRows_in ok _ r).2.1⟩⟩
theorem lawRows_free (d : PlanD) : lawRows d = d.ties ++ freeR "" d.evs d.caps := by
  unfold lawRows freeR
  exact List.append_assoc ..
theorem plan_ne {d : PlanD} (ok : PlanOk d) {t : LRow} (ht : t ∈ d.ties) (e : t.1 = t.2.1) : 0 < t.2.2 := by
  obtain ⟨ρ, hρ⟩ := ok.up
  have h0 := (ok.tin t ht).2.2
  by_cases z : t.2.2 = 0
  · have := hρ t ht z
    rw [e] at this
    exact absurd this (Nat.lt_irrefl _)
  · omega
theorem fol_plan {d : PlanD} (ok : PlanOk d) {i : Nat} {t : LRow} (ht : d.ties[i]? = some t) : FolOk (("" : Str) :: d.evs) (farS d) (RowL (lawRows d)) (d.ties.take i ++ d.ties.drop (i + 1) ++ freeR "" d.evs d.caps) t := by
  refine ⟨far_cl ok, fun f l a => ?_, plan_ne ok (List.mem_of_getElem? ht)⟩
  have hs : d.ties = d.ties.take i ++ t :: d.ties.drop (i + 1) := by
    have hi := (List.getElem?_eq_some_iff.mp ht)
    obtain ⟨hi, e⟩ := hi
    rw [← e, ← List.drop_eq_getElem_cons hi, List.take_append_drop]
  show (f, l, a) ∈ lawRows d ↔ _
  rw [lawRows_free, List.mem_append, List.mem_append, List.mem_append]
  constructor
  · rintro (h | h)
    · rw [hs] at h
      rcases List.mem_append.mp h with h | h
      · exact .inl (.inl (.inl h))
      · rcases List.mem_cons.mp h with h | h
        · exact .inr h
        · exact .inl (.inl (.inr h))
    · exact .inl (.inr h)
  · rintro (((h | h) | h) | h)
    · exact .inl (List.mem_of_mem_take h)
    · exact .inl (List.mem_of_mem_drop h)
    · exact .inr h
    · exact .inl (h ▸ List.mem_of_getElem? ht)
noncomputable def needF (d : PlanD) : List Nat := (List.range d.ties.length).filter fun i => match d.ties[i]? with
  | some t => fol (d.ties.take i ++ d.ties.drop (i + 1) ++ freeR "" d.evs d.caps) t
  | none => false
def spStay : Sp := fun vs H Q _ => ∃ (q tl fl : Addr) (ps : List Str) (S : Str → Str → Option Int) (ts fs : List Addr) (ties free : List LRow), vs = [.ref q, .ref tl, .ref fl] ∧ SmAt H q ps S ∧ ps.length ≤ 9 ∧ H tl = some (.lst (ts.map V.ref)) ∧ TiesAt H ts ties ∧ H fl = some (.lst (fs.map V.ref)) ∧ TiesAt H fs free ∧ ClS ps S (RowL (ties ++ free)) ∧ (∀ t ∈ ties, t.1 = t.2.1 → 0 < t.2.2) ∧ ties.length ≤ 60 ∧ free.length ≤ 20 ∧
  ∀ l H', Same H H' → H l = none → H' l = some (.lst ((stN ties free ties.length).map fun i => V.int (i : Nat))) → Q (.ref l) H'
def natI (st : List Nat) : List Int := st.map fun i => ((i : Nat) : Int)
theorem natI_map (st : List Nat) : (natI st).map V.int = st.map fun i => V.int (i : Nat) := by
  unfold natI
  rw [List.map_map]
  rfl
theorem rgV_nat (n : Nat) : rgV 0 ((n : Nat) : Int) = (natI (List.range n)).map V.int := by
  rw [natI_map]
  unfold rgV
  rw [show (((n : Nat) : Int) - 0).toNat = n by omega]
  exact List.map_congr_left fun i _ => by rw [Int.zero_add]
theorem erase_flt : ∀ {st : List Nat} {j a : Nat}, st.Nodup → st[j]? = some a → st.eraseIdx j = st.filter fun i => decide (i ≠ a)
  | [], j, a, _, h => by simp at h
  | x :: st, 0, a, nd, h => by
    have h : some x = some a := h
    cases h
    rw [List.eraseIdx_cons_zero, List.filter_cons, if_neg (by simp)]
    rw [List.nodup_cons] at nd
    refine (List.filter_eq_self.mpr fun y hy => decide_eq_true ?_).symm
    intro z
    rw [z] at hy
    exact nd.1 hy
  | x :: st, j + 1, a, nd, h => by
    rw [List.nodup_cons] at nd
    have h : st[j]? = some a := h
    have hx : x ≠ a := fun z => nd.1 (z ▸ List.mem_of_getElem? h)
    rw [List.eraseIdx_cons_succ, List.filter_cons, if_pos (decide_eq_true hx), erase_flt nd.2 h]
theorem natI_erase (st : List Nat) (j : Nat) : (natI st).eraseIdx j = natI (st.eraseIdx j) := by
  unfold natI
  induction st generalizing j with
  | nil => rfl
  | cons x st ih =>
    cases j with
    | zero => rfl
    | succ j => exact congrArg (List.cons ((x : Nat) : Int)) (ih j)
theorem natI_get {st : List Nat} {i : Nat} {x : V} (h : ((natI st).map V.int)[i]? = some x) : ∃ a, st[i]? = some a ∧ x = .int (a : Nat) := by
  rw [natI_map, List.getElem?_map] at h
  cases e : st[i]? with
  | none => rw [e] at h; cases h
  | some a => rw [e] at h; cases h; exact ⟨a, rfl, rfl⟩
theorem TiesAt.at {H : Hp} {ts : List Addr} {ties : List LRow} (h : TiesAt H ts ties) : ∀ {p : Nat} {t : LRow}, ties[p]? = some t → ∃ b, (ts.map V.ref)[p]? = some (.ref b) ∧ H b = some (.tup (rowV t)) := by
  unfold TiesAt at h
  induction h with
  | nil => intro p t e; simp at e
  | @cons a r as bs q _ ih =>
    intro p t e
    cases p with
    | zero =>
      have e : some r = some t := e
      cases e
      exact ⟨a, rfl, q⟩
    | succ p => exact ih (p := p) (t := t) e
theorem pick_snoc {ties : List LRow} {st : List Nat} {a : Nat} {t : LRow} (h : ties[a]? = some t) : pick ties (st ++ [a]) = pick ties st ++ [t] := by
  unfold pick
  rw [List.filterMap_append, List.filterMap_cons, h]
  rfl
theorem ok_staying {f : Addr} {fd : FuncData} (F : Fun K "staying" "staying" s_staying f fd) (T : Txt mg) (cfollows : Cal P w K mg base 2 "follows" spFollows []) : FnOk P w K mg base CX0 3 f fd ["sums", "ties", "free"] spStay := by
  have nd := sc_staying.nd
  refine F.ok sc_staying (fun vs H Q E h => ?_) (fun cdv A outer s H vs Q E hr h => ?_)
  · obtain ⟨_, _, _, _, _, _, _, _, _, rfl, _⟩ := h
    rfl
  · obtain ⟨q, tl, fl, ps, S, ts, fs, ties, free, rfl, hS, h9, htl, hts, hfl, hfs, hcl, hne, h60, h20, qq⟩ := h
    have hu := hu_of hr
    refine ⟨_, (pss_cons (ps_set (i := 3) nd rfl (Or.inl rfl) (pe_listRg rfl rfl T.m_list (prg_1 rfl T.m_range (pe_callB (lenK K) (by rfl) T.m_len PySem.boot_len (pa_cons (pv 1) pa_nil)))))
      (pss_cons (ps_for PassesOwn.never rfl (pi_revR rfl T.m_reversed (prg_1 rfl T.m_range (pe_callB (lenK K) (by rfl) T.m_len PySem.boot_len (pa_cons (pv 1) pa_nil)))) (pg_name (i := 4) nd rfl (Or.inr rfl))
      (pss_cons (ps_set (i := 5) nd rfl (Or.inl rfl) (pe_lst (StX.pa_star (pe_lc (own := [("place", 6)]) (g := gName 6) rfl nd (pi_list (pv 3)) (blkOk_by (N := ["sums", "ties", "free", "stay", "index", "others", "place"]) (sc := defScope s_staying) (by decide +kernel)) (fun _ _ _ _ _ => pg_name (i := 6) nd rfl (Or.inl rfl)) (fun _ _ _ _ _ => pts_one (pt_cmpR op_ne (pv 6) (pv 4) (by rfl))) (fun _ _ _ _ _ => (pe_ix (ixL K) (pv 1) (pv 6) (fun _ _ => rfl)))) (StX.pa_star (pv 2) pa_nil))))
      (pss_one (ps_if (pt_val (pe_c cfollows hr (by decide) rfl (pa_cons (pv 0) (pa_cons (pv 5) (pa_cons (pe_ix (ixL K) (pv 1) (pv 4) (fun _ _ => rfl)) pa_nil)))))
      (pss_one (ps_expr (pe_bm PySem.F.plainAttrs_list PySem.F.slot_list_remove PySem.F.type_list_remove mt_remove (pv 3) (pa_cons (pv 4) pa_nil)))) pss_nil))))
      (pss_one (ps_ret (pv 3))))), ?_⟩
    have hlen : (ts.map V.ref).length = ties.length := by rw [List.length_map, hts.length]
    refine seq_asg ?_
    refine ⟨_, rfl, .inl ⟨tl, _, rfl, .inl (.inl (.inl htl)), _, rfl, ?_⟩⟩
    rw [hlen]
    refine ⟨RgOk.of_le (by omega) (by omega) (by omega) (by omega), fun L nL => ?_⟩
    rw [rgV_nat]
    have kL : (upd H L (.lst ((natI (List.range ties.length)).map V.int))) L = some (.lst ((natI (stN ties free 0)).map V.int)) := upd_same
    have s1 := same_upd nL (o := .lst ((natI (List.range ties.length)).map V.int))
    revert kL s1
    generalize upd H L (.lst ((natI (List.range ties.length)).map V.int)) = H1
    intro kL s1
    refine gname (seq_st ?_)
    refine ⟨_, rfl, .inl ⟨tl, _, rfl, .inl (.inl (.inl (s1 _ _ htl))), _, rfl, ?_⟩⟩
    rw [hlen]
    refine ⟨by omega, by omega, by omega, by omega, ?_⟩
    have hn : (((ties.length : Nat) : Int) - 0).toNat = ties.length := by omega
    rw [hn]
    refine for_rangeC (fun j σ H' => Same H H' ∧ H' L = some (.lst ((natI (stN ties free j)).map V.int)) ∧ ∃ v4 v5 v6, σ = [some (.ref q), some (.ref tl), some (.ref fl), some (.ref L), v4, v5, v6]) ⟨s1, kL, _, _, _, rfl⟩ (fun j σ H2 hj pv => ?_) (fun σ H2 pv => ?_)
    · obtain ⟨s2, kL2, v4, v5, v6, rfl⟩ := pv
      have hidx : (0 : Int) + ((ties.length : Nat) : Int) - 1 + ((j : Nat) : Int) * -1 = ((ties.length - 1 - j : Nat) : Int) := by omega
      rw [hidx]
      have hOk := st_ok ties free j (by omega)
      have hlt : ties.length - 1 - j < ties.length := by omega
      have ht : ties[ties.length - 1 - j]? = some ties[ties.length - 1 - j] := List.getElem?_eq_getElem hlt
      have hstl : (stN ties free j).length ≤ 60 := Nat.le_trans (List.Nodup.length_le_of_subset hOk.nd (l₂ := List.range ties.length) fun i hi => List.mem_range.mpr (hOk.lt i hi)) (by rw [List.length_range]; exact h60)
      refine gname (seq_asg ?_)
      refine ⟨_, rfl, L, rfl, ⟨_, .inl (.inl kL2)⟩, fun D nD => ?_⟩
      refine lc_it (walk_list (K := K) (a := L) (xs := (natI (stN ties free j)).map V.int)) (fun i H' => Same H2 H' ∧ ∃ as, H' D = some (.lst (as.map V.ref)) ∧ TiesAt H' as (pick ties (((stN ties free j).take i).filter fun k => decide (k ≠ ties.length - 1 - j))) ∧ as.length ≤ i) ⟨same_upd nD, [], upd_same, .nil, Nat.le_refl _⟩ (fun i H' _ pv => .inl (.inl (pv.1 _ _ kL2))) (fun i x H3' H3 hi pv yv => ?_) (fun H3 pv => ?_)
      · obtain ⟨rfl, hx⟩ := yv
        obtain ⟨s3, as, hD3, hA3, hal⟩ := pv
        obtain ⟨a, ha, rfl⟩ := natI_get hx
        have haL := hOk.lt a (List.mem_of_getElem? ha)
        have hta : ties[a]? = some ties[a] := List.getElem?_eq_getElem haL
        obtain ⟨b, hb1, hb2⟩ := (hts.same (Same.trans s2 s3)).at hta
        have htk : (stN ties free j).take (i + 1) = (stN ties free j).take i ++ [a] := by rw [List.take_add_one, ha]; rfl
        refine ⟨rfl, _, rfl, _, rfl, rfl, _, rfl, ?_⟩
        by_cases z : a = ties.length - 1 - j
        · refine iteE (by rw [z]; simp) ?_
          refine ⟨s3, as, hD3, ?_, by omega⟩
          rw [htk, List.filter_append, List.filter_cons (xs := []), if_neg (by simp [z]), List.filter_nil, List.append_nil]
          exact hA3
        · refine iteY (by rw [Bool.not_eq_true', decide_eq_false_iff_not]; intro w; have := V.int.inj w; omega) ?_
          refine ⟨_, rfl, _, rfl, tl, _, _, .ref b, rfl, rfl, .inl (.inl (s3 _ _ (s2 _ _ htl))), atI_nat hb1, _, hD3, ?_, same_put nD s3, as ++ [b], by rw [upd_same, List.map_append]; rfl, ?_, by rw [List.length_append]; show _ + 1 ≤ _; omega⟩
          · rw [List.length_map, hA3.length]
            refine Nat.lt_of_le_of_lt (Nat.le_trans (pick_len _ _) (Nat.le_trans (List.length_filter_le _ _) (by rw [List.length_take]; exact Nat.min_le_right _ _))) (Nat.lt_of_lt_of_le (by omega) (sz 100))
          · rw [htk, List.filter_append, List.filter_cons (xs := []), if_pos (decide_eq_true z), List.filter_nil, pick_snoc hta]
            refine TiesAt.snoc (hA3.keep fun c _ xs h => ?_) ?_
            · rw [upd_ne (ne_of h hD3 (fun z => nomatch z))]
              exact h
            · rw [upd_ne (ne_of hb2 hD3 (fun z => nomatch z))]
              exact hb2
      · obtain ⟨s3, as, hD3, hA3, hal⟩ := pv
        rw [show ((natI (stN ties free j)).map V.int).length = (stN ties free j).length by rw [natI_map, List.length_map], List.take_length] at hA3
        have hasl : as.length ≤ 60 := by
          rw [hA3.length]
          exact Nat.le_trans (pick_len _ _) (Nat.le_trans (List.length_filter_le _ _) hstl)
        have s03 := Same.trans s2 s3
        have e3 : as.map V.ref ++ (fs.map V.ref ++ []) = (as ++ fs).map V.ref := by rw [List.append_nil, List.map_append]
        refine ⟨D, _, rfl, .inr (.inl (.inl hD3)), _, rfl, fl, _, rfl, .inr (.inl (.inl (s03 _ _ hfl))), ?_⟩
        refine (show ∀ {A B : Prop}, A → B → A ∧ B from fun a b => ⟨a, b⟩) ?_ fun o no => ?_
        · rw [e3, List.length_map, List.length_append, hfs.length]
          exact Nat.le_trans (by omega) (sz 200)
        have s4 := same_upd no (o := .lst (as.map V.ref ++ (fs.map V.ref ++ [])))
        have kO : (upd H3 o (.lst (as.map V.ref ++ (fs.map V.ref ++ [])))) o = some (.lst (as.map V.ref ++ (fs.map V.ref ++ []))) := upd_same
        have s04 := Same.trans s03 s4
        have hA4 := hA3.same s4
        have kL4 := s4 _ _ (s3 _ _ kL2)
        revert kO s04 hA4 kL4
        generalize upd H3 o (.lst (as.map V.ref ++ (fs.map V.ref ++ []))) = H4
        intro kO s04 hA4 kL4
        rw [e3] at kO
        clear s4 no hD3 hA3 s3 nD s03 kL2 s2
        have hoth := TiesAt.app hA4 (hfs.same s04)
        obtain ⟨ct, hc1, hc2⟩ := (hts.same s04).at ht
        refine gname ?_
        refine ⟨_, rfl, _, rfl, _, rfl, _, rfl, tl, _, _, .ref ct, rfl, rfl, .inl (.inl (s04 _ _ htl)), atI_nat hc1, q, o, ct, ps, S, _, _, _, _, rfl, hS.same s04, h9, kO, hoth, hc2, st_fol hcl hne hj ht, ?_, fun H5 s5 => ⟨_, rfl, ?_⟩⟩
        · rw [List.length_append]
          have := hA4.length
          have := h20
          omega
        have s05 := Same.trans s04 s5
        have kL5 := s5 _ _ kL4
        have hstep : stN ties free (j + 1) = if fol (pick ties ((stN ties free j).filter fun i => decide (i ≠ ties.length - 1 - j)) ++ free) ties[ties.length - 1 - j] = true then (stN ties free j).filter fun i => decide (i ≠ ties.length - 1 - j) else stN ties free j := by
          show (match ties[ties.length - 1 - j]? with | some t => _ | none => _) = _
          rw [ht]
        refine ite2 (fun e => ?_) (fun e => ?_)
        · rw [if_pos e] at hstep
          have hmem := hOk.rest (ties.length - 1 - j) (by omega)
          obtain ⟨k, hk, hke⟩ := List.getElem_of_mem hmem
          have hkq : (stN ties free j)[k]? = some (ties.length - 1 - j) := by rw [List.getElem?_eq_getElem hk, hke]
          refine ⟨_, rfl, .inl ⟨rfl, _, .inl (.inl kL5)⟩, _, rfl, L, natI (stN ties free j), ((ties.length - 1 - j : Nat) : Int), k, rfl, rfl, kL5, ?_, fun m hm he => ?_, ?_⟩
          · unfold natI
            rw [List.getElem?_map, hkq]
            rfl
          · unfold natI at he
            rw [List.getElem?_map] at he
            cases hq : (stN ties free j)[m]? with
            | none => rw [hq] at he; cases he
            | some a =>
              rw [hq] at he
              have he : some ((a : Nat) : Int) = some ((ties.length - 1 - j : Nat) : Int) := he
              have ha : a = ties.length - 1 - j := by
                have := Option.some.inj he
                omega
              obtain ⟨hml, hme⟩ := List.getElem?_eq_some_iff.mp hq
              have := (List.getElem_inj (h₀ := hml) (h₁ := hk) hOk.nd).mp (by rw [hme, hke, ha])
              omega
          · refine ⟨same_put nL s05, ?_, _, _, _, rfl⟩
            rw [upd_same, natI_erase, erase_flt hOk.nd hkq, hstep]
        · rw [if_neg e] at hstep
          refine ⟨s05, ?_, _, _, _, rfl⟩
          rw [hstep]
          exact kL5
    · obtain ⟨s2, kL2, v4, v5, v6, rfl⟩ := pv
      rw [natI_map] at kL2
      exact ⟨_, rfl, qq L H2 s2 nL kL2⟩

end
end Pk

set_option Elab.async false
set_option linter.all false
set_option maxRecDepth 100000
set_option maxHeartbeats 4000000
namespace Pk
open PySem PySem.Spec PyProof.Rows L2 Pu
abbrev s_plan_of : Stmt := topS 58
theorem sc_plan_of : FnScope ["events", "sums", "most", "limits", "pairs", "told", "ties", "event", "earlier", "later", "tie", "index"] ["events", "sums"] (defScope s_plan_of) := ⟨rfl, rfl, rfl, by decide +kernel, rfl, by decide +kernel, by decide +kernel⟩

section
variable {P : Program} {w : World} {K : PySem.W.Frag} {mg : Str → Option Value} {base : Heap}
/-! ### the plan of closed sums -/
noncomputable def planOf (evs : List Str) (S : Str → Str → Option Int) : PlanD := ⟨evs, pick (tiesOf "" evs S) (stayT "" evs S), capsOf "" evs S⟩
theorem planOf_free {evs : List Str} {S : Str → Str → Option Int} : lawRows (planOf evs S) = pick (tiesOf "" evs S) (stayT "" evs S) ++ freeR "" evs (capsOf "" evs S) := lawRows_free _
theorem mem_pick_ties {evs : List Str} {S : Str → Str → Option Int} {t : LRow} (h : t ∈ pick (tiesOf "" evs S) (stayT "" evs S)) : t ∈ tiesOf "" evs S := by
  obtain ⟨i, _, e⟩ := mem_pick.mp h
  exact List.mem_of_getElem? e
theorem stay_len {evs : List Str} {S : Str → Str → Option Int} : (stayT "" evs S).length ≤ (tiesOf "" evs S).length := by
  have h := st_ok (tiesOf "" evs S) (freeR "" evs (capsOf "" evs S)) _ (Nat.le_refl _)
  have := List.Nodup.length_le_of_subset h.nd (l₂ := List.range (tiesOf "" evs S).length) fun i hi => List.mem_range.mpr (h.lt i hi)
  rw [List.length_range] at this
  exact this
theorem caps_nd {evs : List Str} {S : Str → Str → Option Int} (nd : evs.Nodup) : ((capsOf "" evs S).map (·.1)).Nodup ∧ (capsOf "" evs S).length ≤ evs.length := by
  have e : (capsOf "" evs S).map (·.1) = evs.filter fun e => (S "" e).isSome := by
    unfold capsOf
    induction evs with
    | nil => rfl
    | cons x r ih =>
      rw [List.filterMap_cons, List.filter_cons]
      cases h : S "" x with
      | none => exact ih (List.nodup_cons.mp nd).2
      | some v => exact congrArg (List.cons x) (ih (List.nodup_cons.mp nd).2)
  refine ⟨by rw [e]; exact nd.filter _, List.length_filterMap_le ..⟩
theorem planOf_ok {evs : List Str} {S : Str → Str → Option Int} (ev : EvsOk evs) (h : ClP "" evs S) : PlanOk (planOf evs S) := by
  refine ⟨ev, ?_, fun t ht => ?_, fun c hc => ?_, (caps_nd ev.nd).1, ?_⟩
  · have h1 := (ties_len (o := "") (S := S) ev.nd ev.hi).2
    have h2 := pick_len (tiesOf "" evs S) (stayT "" evs S)
    have h3 := stay_len (evs := evs) (S := S)
    show (pick (tiesOf "" evs S) (stayT "" evs S)).length ≤ 60
    omega
  · obtain ⟨a, b, c⟩ := t
    obtain ⟨⟨h1, h2, _, h4⟩, _⟩ := mem_ties.mp (mem_pick_ties ht)
    exact ⟨h1, h2, (h.dom a (List.mem_cons_of_mem _ h1) b c h4).2⟩
  · obtain ⟨a, b⟩ := c
    obtain ⟨h1, h2⟩ := mem_capsO.mp hc
    exact ⟨h1, (h.dom "" (List.mem_cons_self ..) a b h2).2⟩
  · obtain ⟨ρ, hρ⟩ := ties_up h
    exact ⟨ρ, fun t ht => hρ t (mem_pick_ties ht)⟩
theorem planOf_far {evs : List Str} {S : Str → Str → Option Int} (ev : EvsOk evs) (h : ClP "" evs S) {f : Str} (hf : f ∈ ("" : Str) :: evs) (l : Str) : getR (far (planOf evs S) f) l = S f l := by
  refine Option.ext fun v => ?_
  rw [far_dist (planOf_ok ev h) hf, (stay_cl h).d f hf l v, planOf_free]
/-- none of its ties is needless -/
theorem planOf_need {evs : List Str} {S : Str → Str → Option Int} : needF (planOf evs S) = [] := by
  unfold needF
  rw [List.filter_eq_nil_iff]
  intro i hi
  show ¬ (match (pick (tiesOf "" evs S) (stayT "" evs S))[i]? with | some t => _ | none => false) = true
  cases h : (pick (tiesOf "" evs S) (stayT "" evs S))[i]? with
  | none => exact Bool.false_ne_true
  | some t =>
    have := stay_min h
    show ¬ fol ((pick (tiesOf "" evs S) (stayT "" evs S)).take i ++ (pick (tiesOf "" evs S) (stayT "" evs S)).drop (i + 1) ++ freeR "" evs (capsOf "" evs S)) t = true
    rw [this]
    decide
theorem capOf_none {cs : List (Str × Int)} {g : Str} (h : g ∉ cs.map (·.1)) : capOf cs g = none := by
  unfold capOf
  have h2 : cs.find? (fun c => decide (c.1 = g)) = none := List.find?_eq_none.mpr fun c hc z => h (by rw [← of_decide_eq_true z]; exact List.mem_map_of_mem (f := (·.1)) hc)
  rw [h2]
  rfl
theorem capsO_sub {evs : List Str} {S : Str → Str → Option Int} {g : Str} (h : g ∈ (capsOf "" evs S).map (·.1)) : g ∈ evs := by
  obtain ⟨⟨a, b⟩, hc, rfl⟩ := List.mem_map.mp h
  exact (mem_capsO.mp hc).1
theorem capOf_caps {evs : List Str} {S : Str → Str → Option Int} (nd : evs.Nodup) {l : Str} (hl : l ∈ evs) : capOf (capsOf "" evs S) l = S "" l := by
  cases h : S "" l with
  | some v =>
    exact capOf_nd (c := (l, v)) (caps_nd nd).1 (mem_capsO.mpr ⟨hl, h⟩)
  | none =>
    refine capOf_none fun z => ?_
    obtain ⟨⟨a, b⟩, hc, e⟩ := List.mem_map.mp z
    obtain ⟨_, h2⟩ := mem_capsO.mp hc
    have e : a = l := e
    rw [e, h] at h2
    cases h2
theorem take_notin {es : List Str} (nd : es.Nodup) {i : Nat} {g : Str} (h : es[i]? = some g) : g ∉ es.take i := fun z => by
  obtain ⟨j, hj, e⟩ := List.getElem_of_mem z
  rw [List.getElem_take] at e
  rw [List.length_take] at hj
  obtain ⟨hi, e2⟩ := List.getElem?_eq_some_iff.mp h
  have := (List.getElem_inj (h₀ := by omega) (h₁ := hi) nd).mp (e.trans e2.symm)
  omega
def pairsP (evs es : List Str) : List (Str × Str) := es.flatMap fun e => (evs.filter fun l => decide (e ≠ l)).map fun l => (e, l)
theorem steps_len {H : Hp} {as : List Addr} {st : List (Str × Str)} (h : StepsAt H as st) : as.length = st.length := Paired.length h
theorem pairsP_len {evs : List Str} (h8 : evs.length ≤ 8) : ∀ {es : List Str}, (pairsP evs es).length ≤ es.length * 8 := by
  intro es
  induction es with
  | nil => exact Nat.le_refl _
  | cons x r ih =>
    unfold pairsP at *
    rw [List.flatMap_cons, List.length_append, List.length_map, List.length_cons, Nat.succ_mul]
    have := List.length_filter_le (fun l => decide (x ≠ l)) evs
    omega
def spPlanOf (K : PySem.W.Frag) (C : Addr) : Sp := fun vs H Q _ => ∃ (e q : Addr) (evs : List Str) (S : Str → Str → Option Int), vs = [.ref e, .ref q] ∧ H e = some (.lst (evs.map V.str)) ∧ SmAt H q (("" : Str) :: evs) S ∧ EvsOk evs ∧ ClP "" evs S ∧ ∀ p H', Same H H' → H p = none → PlanAt K C H' p (planOf evs S) → Q (.ref p) H'
def spPlanOfS (K : PySem.W.Frag) (C : Addr) : Sp := fun vs H Q _ => ∃ (e q : Addr) (evs : List Str) (S : Str → Str → Option Int), vs = [.ref e, .ref q] ∧ Sq K H e (evs.map V.str) ∧ SmAt H q (("" : Str) :: evs) S ∧ EvsOk evs ∧ ClP "" evs S ∧ ∀ p H', Same H H' → H p = none → PlanAt K C H' p (planOf evs S) → Q (.ref p) H'
theorem ok_plan_ofS {C f : Addr} {fd : FuncData} (F : Fun K "plan_of" "plan_of" s_plan_of f fd) (T : Txt mg) (cPlan : CalMk P w K mg base CX0 5 "Plan" C "limits" (spInit K C)) (cis_above : Cal P w K mg base 1 "is_above" spAbove []) (cfree_steps : Cal P w K mg base 1 "free_steps" (spFreeS K) []) (cstaying : Cal P w K mg base 3 "staying" spStay []) :
    FnOk P w K mg base CX0 7 f fd ["events", "sums"] (spPlanOfS K C) := by
  have nd := sc_plan_of.nd
  refine F.ok sc_plan_of (fun vs H Q E h => ?_) (fun cdv A outer s H vs Q E hr h => ?_)
  · obtain ⟨_, _, _, _, rfl, _⟩ := h
    rfl
  · obtain ⟨e, q, evs, S, rfl, he, hS, ev, hC, qq⟩ := h
    have hu := hu_of hr
    refine ⟨_, (pss_cons (ps_set (i := 2) nd rfl (Or.inr rfl) (pe_dget hu (pv 1) (pe_gs rfl T.m_NOTHING) (fun _ _ => rfl)))
      (pss_cons (ps_set (i := 3) nd rfl (Or.inr rfl) (pe_dc (own := [("event", 7)]) (g := gName 7) rfl nd (pi_seq K (pv 0)) (blkOk_by (N := ["events", "sums", "most", "limits", "pairs", "told", "ties", "event", "earlier", "later", "tie", "index"]) (sc := defScope s_plan_of) (by decide +kernel)) (fun _ _ _ _ _ => pg_name (i := 7) nd rfl (Or.inl rfl)) (fun _ _ _ _ _ => pts_one (pt_cmp (pc_din hu (pv 7) (pv 2)) (by rfl))) (fun _ _ _ _ _ => (pv 7)) (fun _ _ _ _ _ => (pe_dget hu (pv 2) (pv 7) (fun _ _ => rfl)))))
      (pss_cons (ps_setLc2 (i := 4) (y := "pairs") (own := [("earlier", 8), ("later", 9)]) (vs1 := [9]) (g := gName 8) (g1 := gName 9) (wi1 := iSeq K (tVar 0)) (tt := tYes) rfl nd rfl rfl (sw_true rfl rfl rfl (by decide +kernel)) (pi_seq K (pv 0)) (blkOk_by (N := ["events", "sums", "most", "limits", "pairs", "told", "ties", "event", "earlier", "later", "tie", "index"]) (sc := defScope s_plan_of) (by decide +kernel)) (by decide) (fun _ _ _ _ _ => pg_name (i := 8) nd rfl (Or.inl rfl)) (fun _ _ _ _ _ => pts_nil) (fun _ _ _ _ _ => (pi_seq K (pv 0))) (fun _ _ _ _ _ => pg_name (i := 9) nd rfl (Or.inl rfl)) (fun _ _ _ _ _ => pts_one (pt_cmpR op_ne (pv 8) (pv 9) (by rfl))) (fun _ _ _ _ _ => (pe_tup (pa_cons (pv 8) (pa_cons (pv 9) pa_nil)))))
      (pss_cons (ps_setLc (i := 5) (y := "told") (own := [("earlier", 8), ("later", 9)]) (g := (gTup K 2 (gCons (gName 8) (gCons (gName 9) gNil)))) rfl nd rfl rfl (sw_true rfl rfl rfl (by decide +kernel)) (pi_list (pv 4)) (blkOk_by (N := ["events", "sums", "most", "limits", "pairs", "told", "ties", "event", "earlier", "later", "tie", "index"]) (sc := defScope s_plan_of) (by decide +kernel)) (fun _ _ _ _ _ => (pg_tup rfl (pgs_cons (pg_name (i := 8) nd rfl (Or.inl rfl)) (pgs_cons (pg_name (i := 9) nd rfl (Or.inl rfl)) pgs_nil)))) (fun _ _ _ _ _ => pts_one (pt_cmp (pc_din hu (pv 9) (pe_dget hu (pv 1) (pv 8) (fun _ _ => rfl))) (by rfl))) (fun _ _ _ _ _ => (pe_tup (pa_cons (pv 8) (pa_cons (pv 9) (pa_cons (pe_dget hu (pe_dget hu (pv 1) (pv 8) (fun _ _ => rfl)) (pv 9) (fun _ _ => rfl)) pa_nil))))))
      (pss_cons (ps_set (i := 6) nd rfl (Or.inr rfl) (pe_lc (own := [("tie", 10)]) (g := gName 10) rfl nd (pi_list (pv 5)) (blkOk_by (N := ["events", "sums", "most", "limits", "pairs", "told", "ties", "event", "earlier", "later", "tie", "index"]) (sc := defScope s_plan_of) (by decide +kernel)) (fun _ _ _ _ _ => pg_name (i := 10) nd rfl (Or.inl rfl)) (fun _ _ _ _ _ => pts_one (pt_val (pe_c cis_above hr (by decide) rfl (pa_cons (pe_dget1 hu (pv 3) (pe_ix (ixT K) (pv 10) pe_int (fun _ _ => rfl)) (by constructor <;> intros <;> rfl)) (pa_cons (pe_ix (ixT K) (pv 10) pe_int (fun _ _ => rfl)) pa_nil))))) (fun _ _ _ _ _ => (pv 10))))
      (pss_one (ps_ret (pe_mkK cPlan hr (by decide) rfl pass0 (pa_cons (pv 0) (pa_cons (pe_lc (own := [("index", 11)]) (g := gName 11) (tt := tYes) rfl nd (pi_list (pe_c cstaying hr (by decide) rfl (pa_cons (pv 1) (pa_cons (pv 6) (pa_cons (pe_c cfree_steps hr (by decide) rfl (pa_cons (pv 3) (pa_cons (pv 0) pa_nil))) pa_nil))))) (blkOk_by (N := ["events", "sums", "most", "limits", "pairs", "told", "ties", "event", "earlier", "later", "tie", "index"]) (sc := defScope s_plan_of) (by decide +kernel)) (fun _ _ _ _ _ => pg_name (i := 11) nd rfl (Or.inl rfl)) (fun _ _ _ _ _ => pts_nil) (fun _ _ _ _ _ => (pe_ix (ixL K) (pv 6) (pv 11) (fun _ _ => rfl)))) pa_nil)) (pk_cons (pv 3) pk_nil))))))))), ?_⟩
    have hl8 := ev.hi
    have m0 : ("" : Str) ∈ ("" : Str) :: evs := List.mem_cons_self ..
    obtain ⟨a0, r0, g1, g2, rnd, rin, rg, g3⟩ := hS.row m0
    refine seq_asg ?_
    refine ⟨_, rfl, q, _, rfl, g1, ?_⟩
    refine gname (seq_asg ?_)
    refine it_seq (fun Q q => ⟨_, rfl, q⟩) he (fun _ h => h) fun J wJ L nL => ?_
    refine dcK_it wJ (fun i H' => Same H H' ∧ H' L = some (.dK (capsV (capsOf "" (evs.take i) S)))) ⟨same_upd nL, upd_same⟩ (fun i H' _ pv o h => pv.1 _ _ h) (fun i x H1' H1 hi pv yv => ?_) (fun H1 pv => ?_)
    · obtain ⟨rfl, hx⟩ := yv
      obtain ⟨s1, hL1⟩ := pv
      obtain ⟨g, hg, rfl⟩ := strs_get hx
      have htk : evs.take (i + 1) = evs.take i ++ [g] := by rw [List.take_add_one, hg]; rfl
      refine ⟨rfl, _, rfl, _, rfl, a0, _, rfl, dget_same (g3 g) s1, _, rfl, ?_⟩
      rw [isSome_int]
      cases hs : S "" g with
      | none =>
        refine iteF ?_
        refine ⟨s1, ?_⟩
        rw [htk]
        unfold capsOf
        rw [List.filterMap_append, List.filterMap_cons, hs]
        show H1 L = some (.dK (capsV (List.filterMap _ (evs.take i) ++ [])))
        rw [List.append_nil]
        exact hL1
      | some v =>
        refine iteT ?_
        have dv : DGet H1 a0 (.str g) (some (.int v)) := by
          have := dget_same (g3 g) s1
          rw [hs] at this
          exact this
        refine ⟨_, rfl, _, rfl, _, rfl, a0, _, rfl, dv, _, .inr g, rfl, hL1, ?_, same_put nL s1, ?_⟩
        · unfold capsV capsOf
          rw [List.length_map]
          exact Nat.lt_of_le_of_lt (Nat.le_trans (List.length_filterMap_le ..) (by rw [List.length_take]; exact Nat.min_le_right _ _)) (Nat.lt_of_lt_of_le (by omega) (sz 10))
        · rw [upd_same, putK_new _ (by rw [valV_capOf, capOf_none fun z => take_notin ev.nd hg (capsO_sub z)]; rfl), htk]
          unfold capsOf
          rw [List.filterMap_append, List.filterMap_cons, hs]
          show _ = some (HO.dK (capsV (List.filterMap _ (evs.take i) ++ [(g, v)])))
          unfold capsV
          rw [List.map_append]
          rfl
    rw [List.length_map, List.take_length] at pv
    obtain ⟨s1, kL⟩ := pv
    have he1 := sq_same he s1
    have hS1 := hS.same s1
    clear rg g3 rin rnd g2 g1 hS he nL
    refine gname (seq_asg ?_)
    refine it_seq (fun Q q => ⟨_, rfl, q⟩) he1 (fun _ h => h) fun J wJ D nD => ?_
    refine walk_it wJ (fun i H' => Same H1 H' ∧ ∃ as, H' D = some (.lst (as.map V.ref)) ∧ StepsAt H' as (pairsP evs (evs.take i))) ⟨same_upd nD, [], upd_same, .nil⟩ (fun i H' _ pv o h => pv.1 _ _ h) (fun i x H2' H2 hi pv yv => ?_) (fun H2 pv => ?_)
    · obtain ⟨rfl, hx⟩ := yv
      obtain ⟨s2, as, hD2, hA2⟩ := pv
      obtain ⟨g, hg, rfl⟩ := strs_get hx
      have htk : evs.take (i + 1) = evs.take i ++ [g] := by rw [List.take_add_one, hg]; rfl
      refine ⟨rfl, it_seq (fun Q q => ⟨_, rfl, q⟩) he1 (fun o h => s2 _ _ h) fun J2 wJ2 => ?_⟩
      refine walk_it wJ2 (fun j H' => Same H1 H' ∧ ∃ as, H' D = some (.lst (as.map V.ref)) ∧ StepsAt H' as (pairsP evs (evs.take i) ++ ((evs.take j).filter fun l => decide (g ≠ l)).map fun l => (g, l))) ⟨s2, as, hD2, by rw [List.take_zero, List.filter_nil, List.map_nil, List.append_nil]; exact hA2⟩ (fun j H' _ pv o h => pv.1 _ _ h) (fun j x H3' H3 hj pv yv => ?_) (fun H3 pv => ?_)
      · obtain ⟨rfl, hx⟩ := yv
        obtain ⟨s3, bs, hD3, hA3⟩ := pv
        obtain ⟨l, hl, rfl⟩ := strs_get hx
        have htl : evs.take (j + 1) = evs.take j ++ [l] := by rw [List.take_add_one, hl]; rfl
        refine ⟨rfl, _, rfl, _, rfl, rfl, _, rfl, ?_⟩
        by_cases z : g = l
        · refine iteE (by rw [z]; simp) ?_
          refine ⟨s3, bs, hD3, ?_⟩
          rw [htl, List.filter_append, List.filter_cons (xs := []), if_neg (by simp [z]), List.filter_nil, List.append_nil]
          exact hA3
        · refine iteY (by rw [Bool.not_eq_true', decide_eq_false_iff_not]; exact fun w => z (V.str.inj w)) ?_
          refine ⟨_, rfl, _, rfl, sz 2, fun T1 nT1 => ?_⟩
          have sT := same_upd nT1 (o := .tup [.str g, .str l])
          refine ⟨_, sT _ _ hD3, ?_, same_put nD (Same.trans s3 sT), bs ++ [T1], by rw [upd_same, List.map_append]; rfl, ?_⟩
          · rw [List.length_map, steps_len hA3, List.length_append, List.length_map]
            have h1 := pairsP_len hl8 (es := evs.take i)
            have h2 := List.length_filter_le (fun l => decide (g ≠ l)) (evs.take j)
            rw [List.length_take] at h1 h2
            exact Nat.lt_of_lt_of_le (by omega) (sz 200)
          · rw [htl, List.filter_append, List.filter_cons (xs := []), if_pos (decide_eq_true z), List.filter_nil, List.map_append, ← List.append_assoc]
            refine ((hA3.same sT).snoc upd_same).keep fun b xs h => ?_
            rw [upd_ne (ne_of h (sT _ _ hD3) (fun z => nomatch z))]
            exact h
      · obtain ⟨s3, bs, hD3, hA3⟩ := pv
        rw [List.length_map, List.take_length] at hA3
        refine ⟨s3, bs, hD3, ?_⟩
        rw [htk]
        unfold pairsP
        rw [List.flatMap_append, List.flatMap_cons, List.flatMap_nil, List.append_nil]
        exact hA3
    rw [List.length_map, List.take_length] at pv
    obtain ⟨s2, ps, kP, hP⟩ := pv
    have hP : StepsAt H2 ps (pairsOf evs) := hP
    have hpl : (pairsOf evs).length ≤ 64 := Nat.le_trans (pairsP_len hl8 (es := evs)) (by omega)
    have s02 := Same.trans s1 s2
    have kL2 := s2 _ _ kL
    have hS2 := hS1.same s2
    have he2 := sq_same he1 s2
    clear nD hS1 he1 kL s1 s2
    refine gname (seq_asg ?_)
    refine ⟨_, rfl, D, rfl, ⟨_, .inl (.inl kP)⟩, fun D2 nD2 => ?_⟩
    refine lc_it (walk_list (K := K) (a := D) (xs := ps.map V.ref)) (fun i H' => Same H2 H' ∧ ∃ as, H' D2 = some (.lst (as.map V.ref)) ∧ TiesAt H' as (((pairsOf evs).take i).filterMap fun p => (S p.1 p.2).map fun v => (p.1, p.2, v))) ⟨same_upd nD2, [], upd_same, .nil⟩ (fun i H' _ pv => .inl (.inl (pv.1 _ _ kP))) (fun i x H3' H3 hi pv yv => ?_) (fun H3 pv => ?_)
    · obtain ⟨rfl, hx⟩ := yv
      obtain ⟨s3, as, hD3, hA3⟩ := pv
      obtain ⟨t, u, rfl, hu1, htu⟩ := (hP.same s3).get hx
      have hti : (pairsOf evs).take (i + 1) = (pairsOf evs).take i ++ [u] := by rw [List.take_add_one, hu1]; rfl
      obtain ⟨u1, u2, _⟩ := mem_pairs.mp (show (u.1, u.2) ∈ pairsOf evs from List.mem_of_getElem? hu1)
      obtain ⟨b, kvs, d1, d2, d3⟩ := hS2.g.same s3 u.1 (List.mem_cons_of_mem _ u1)
      refine ⟨t, _, rfl, .inl (.inl htu), rfl, _, _, rfl, _, _, rfl, rfl, rfl, _, rfl, _, rfl, _, rfl, q, _, rfl, d1, b, _, rfl, d3 u.2, _, rfl, ?_⟩
      rw [isSome_int]
      cases hs : S u.1 u.2 with
      | none =>
        refine iteF ?_
        refine ⟨s3, as, hD3, ?_⟩
        rw [hti, List.filterMap_append, List.filterMap_cons, hs]
        show TiesAt H3 as (_ ++ [])
        rw [List.append_nil]
        exact hA3
      | some v =>
        refine iteT ?_
        have dv : DGet H3 b (.str u.2) (some (.int v)) := by
          have := d3 u.2
          rw [hs] at this
          exact this
        refine ⟨_, rfl, _, rfl, _, rfl, _, rfl, q, _, rfl, d1, _, rfl, b, _, rfl, dv, sz 3, fun T1 nT1 => ?_⟩
        have sT := same_upd nT1 (o := .tup [.str u.1, .str u.2, .int v])
        refine ⟨_, sT _ _ hD3, ?_, same_put nD2 (Same.trans s3 sT), as ++ [T1], by rw [upd_same, List.map_append]; rfl, ?_⟩
        · rw [List.length_map, hA3.length]
          exact Nat.lt_of_le_of_lt (Nat.le_trans (List.length_filterMap_le ..) (Nat.le_trans (by rw [List.length_take]; exact Nat.min_le_right _ _) hpl)) (Nat.lt_of_lt_of_le (by omega) (sz 100))
        · rw [hti, List.filterMap_append, List.filterMap_cons, hs]
          refine TiesAt.keep (H := upd H3 T1 (.tup [.str u.1, .str u.2, .int v])) ((hA3.same sT).snoc upd_same) fun c _ xs h => ?_
          rw [upd_ne (ne_of h (sT _ _ hD3) (fun z => nomatch z))]
          exact h
    rw [List.length_map, steps_len hP, List.take_length] at pv
    obtain ⟨s3, tl, kT, hT⟩ := pv
    have hT : TiesAt H3 tl (toldOf evs S) := hT
    have htl := (ties_len (o := "") (S := S) ev.nd hl8)
    have s03 := Same.trans s02 s3
    have kL3 := s3 _ _ kL2
    have hS3 := hS2.same s3
    have he3 := sq_same he2 s3
    clear nD2 hS2 he2 kL2 s02 s3 hP kP
    refine gname (seq_asg ?_)
    refine ⟨_, rfl, D2, rfl, ⟨_, .inl (.inl kT)⟩, fun D3 nD3 => ?_⟩
    refine lc_it (walk_list (K := K) (a := D2) (xs := tl.map V.ref)) (fun i H' => Same H3 H' ∧ ∃ as, H' D3 = some (.lst (as.map V.ref)) ∧ TiesAt H' as (((toldOf evs S).take i).filter fun t => aboveB (S "" t.2.1) t.2.2)) ⟨same_upd nD3, [], upd_same, .nil⟩ (fun i H' _ pv => .inl (.inl (pv.1 _ _ kT))) (fun i x H4' H4 hi pv yv => ?_) (fun H4 pv => ?_)
    · obtain ⟨rfl, hx⟩ := yv
      obtain ⟨s4, as, hD4, hA4⟩ := pv
      obtain ⟨c, t, rfl, htm, ht1, hct⟩ := (hT.same s4).get hx
      have hti : (toldOf evs S).take (i + 1) = (toldOf evs S).take i ++ [t] := by rw [List.take_add_one, ht1]; rfl
      obtain ⟨_, t2, _, _⟩ := mem_told.mp (show (t.1, t.2.1, t.2.2) ∈ toldOf evs S from htm)
      have kL4 := s4 _ _ kL3
      have dl : DGet H4 L (.str t.2.1) ((S "" t.2.1).map V.int) := .inl ⟨capsV (capsOf "" evs S), .inr t.2.1, .inl kL4, rfl, by rw [valV_capOf, capOf_caps ev.nd t2]⟩
      refine ⟨rfl, _, rfl, L, rfl, .inl ⟨_, .inl kL4⟩, _, rfl, c, _, ((1 : Nat) : Int), .str t.2.1, rfl, rfl, .inl (.inl hct), atI_nat rfl, _, dl, _, rfl, c, _, ((2 : Nat) : Int), .int t.2.2, rfl, rfl, .inl (.inl hct), atI_nat rfl, S "" t.2.1, t.2.2, rfl, _, rfl, ?_⟩
      cases hb : aboveB (S "" t.2.1) t.2.2 with
      | false =>
        refine iteF ?_
        refine ⟨s4, as, hD4, ?_⟩
        rw [hti, List.filter_append, List.filter_cons (xs := []), if_neg (by rw [hb]; decide), List.filter_nil, List.append_nil]
        exact hA4
      | true =>
        refine iteT ?_
        refine ⟨_, rfl, _, hD4, ?_, same_put nD3 s4, as ++ [c], by rw [upd_same, List.map_append]; rfl, ?_⟩
        · rw [List.length_map, hA4.length]
          exact Nat.lt_of_le_of_lt (Nat.le_trans (List.length_filter_le _ _) (Nat.le_trans (by rw [List.length_take]; exact Nat.min_le_right _ _) htl.1)) (Nat.lt_of_lt_of_le (by omega) (sz 100))
        · rw [hti, List.filter_append, List.filter_cons (xs := []), if_pos hb, List.filter_nil]
          have kp : ∀ b xs, H4 b = some (.tup xs) → (upd H4 D3 (.lst (as.map V.ref ++ [.ref c]))) b = some (.tup xs) := fun b xs h => by
            rw [upd_ne (ne_of h hD4 (fun z => nomatch z))]
            exact h
          exact TiesAt.snoc (hA4.keep fun b _ xs h => kp b xs h) (kp _ _ hct)
    rw [List.length_map, hT.length, List.take_length] at pv
    obtain ⟨s4, ts, kT4, hT4⟩ := pv
    have hT4 : TiesAt H4 ts (tiesOf "" evs S) := hT4
    have s04 := Same.trans s03 s4
    have kL4 := s4 _ _ kL3
    have hS4 := hS3.same s4
    have he4 := sq_same he3 s4
    clear nD3 hS3 he3 kL3 s03 s4 hT kT
    refine gname ?_
    have hcd := caps_nd (S := S) ev.nd
    refine ⟨_, rfl, _, rfl, _, rfl, _, rfl, _, rfl, L, e, capsOf "" evs S, evs, rfl, kL4, he4, hcd.1, Nat.le_trans hcd.2 hl8, hl8, fun fl fs H5 s5 nf kf hf => ?_⟩
    have hfl : (freeR "" evs (capsOf "" evs S)).length ≤ 20 := by
      unfold freeR
      rw [List.length_append, List.length_map, List.length_map]
      have := hcd.2
      omega
    refine ⟨q, D3, fl, _, S, ts, fs, _, _, rfl, hS4.same s5, by rw [List.length_cons]; omega, s5 _ _ kT4, hT4.same s5, kf, hf, rows_cl hC, fun t ht z => absurd z (ties_ne t ht), by omega, hfl, fun sl H6 s6 nsl hsl => ?_⟩
    have s46 := Same.trans s5 s6
    have s06 := Same.trans s04 s46
    have kT6 := s46 _ _ kT4
    have hT6 := hT4.same s46
    have kL6 := s46 _ _ kL4
    have he6 := sq_same he4 s46
    clear s46 s5 s6 kT4 hT4 kL4 he4 hS4 kf hf nf s04
    refine ⟨sl, rfl, ⟨_, .inl (.inl hsl)⟩, fun D4 nD4 => ?_⟩
    have hsOk := st_ok (tiesOf "" evs S) (freeR "" evs (capsOf "" evs S)) _ (Nat.le_refl _)
    refine lc_it (walk_list (K := K) (a := sl) (xs := (stayT "" evs S).map fun i => V.int (i : Nat))) (fun i H' => Same H6 H' ∧ ∃ as, H' D4 = some (.lst (as.map V.ref)) ∧ TiesAt H' as (pick (tiesOf "" evs S) ((stayT "" evs S).take i))) ⟨same_upd nD4, [], upd_same, .nil⟩ (fun i H' _ pv => .inl (.inl (pv.1 _ _ hsl))) (fun i x H7' H7 hi pv yv => ?_) (fun H7 pv => ?_)
    · obtain ⟨rfl, hx⟩ := yv
      obtain ⟨s7, as, hD7, hA7⟩ := pv
      rw [List.getElem?_map] at hx
      cases ha : (stayT "" evs S)[i]? with
      | none => rw [ha] at hx; cases hx
      | some a =>
        rw [ha] at hx
        cases hx
        have hal := hsOk.lt a (List.mem_of_getElem? ha)
        have hta : (tiesOf "" evs S)[a]? = some (tiesOf "" evs S)[a] := List.getElem?_eq_getElem hal
        obtain ⟨b, hb1, hb2⟩ := (hT6.same s7).at hta
        have htk : (stayT "" evs S).take (i + 1) = (stayT "" evs S).take i ++ [a] := by rw [List.take_add_one, ha]; rfl
        refine ⟨rfl, _, rfl, _, rfl, D3, _, _, .ref b, rfl, rfl, .inl (.inl (s7 _ _ kT6)), atI_nat hb1, _, hD7, ?_, same_put nD4 s7, as ++ [b], by rw [upd_same, List.map_append]; rfl, ?_⟩
        · rw [List.length_map, hA7.length]
          have h1 := stay_len (evs := evs) (S := S)
          exact Nat.lt_of_le_of_lt (Nat.le_trans (pick_len _ _) (Nat.le_trans (by rw [List.length_take]; exact Nat.min_le_right _ _) h1)) (Nat.lt_of_lt_of_le (by omega) (sz 100))
        · rw [htk, pick_snoc hta]
          have kp : ∀ b xs, H7 b = some (.tup xs) → (upd H7 D4 (.lst (as.map V.ref ++ [.ref b]))) b = some (.tup xs) := fun b xs h => by
            rw [upd_ne (ne_of h hD7 (fun z => nomatch z))]
            exact h
          refine TiesAt.snoc (hA7.keep fun c _ xs h => ?_) ?_
          · rw [upd_ne (ne_of h hD7 (fun z => nomatch z))]
            exact h
          · rw [upd_ne (ne_of hb2 hD7 (fun z => nomatch z))]
            exact hb2
    rw [List.length_map, List.take_length] at pv
    obtain ⟨s7, ts7, kT7, hT7⟩ := pv
    have s07 := Same.trans s06 s7
    refine ⟨_, rfl, rfl, rfl, fun x dx hx hdx hne => ?_⟩
    have sx : Same H7 (upd (upd H7 dx (.own x)) x (.ins C dx [])) := Same.trans (same_upd hdx) (same_upd (by rw [upd_ne hne.symm]; exact hx))
    refine ⟨x, dx, e, D4, .ref L, ts7, planOf evs S, rfl, upd_same, sq_same he6 (Same.trans s7 sx), .inl (.inl (.inl (sx _ _ kT7))), hT7.same sx, .inr ⟨L, rfl, sx _ _ (s7 _ _ kL6)⟩, planOf_ok ev hC, fun H8 e8 hp8 => ⟨rfl, qq x H8 (fun a o h => ?_) (s07.free hx) hp8⟩⟩
    exact e8 _ _ (ne_of_none (s07 _ _ h) hx) (sx _ _ (s07 _ _ h))
theorem ok_plan_of {C f : Addr} {fd : FuncData} (F : Fun K "plan_of" "plan_of" s_plan_of f fd) (T : Txt mg) (cPlan : CalMk P w K mg base CX0 5 "Plan" C "limits" (spInit K C)) (cis_above : Cal P w K mg base 1 "is_above" spAbove []) (cfree_steps : Cal P w K mg base 1 "free_steps" (spFreeS K) []) (cstaying : Cal P w K mg base 3 "staying" spStay []) :
    FnOk P w K mg base CX0 7 f fd ["events", "sums"] (spPlanOf K C) := (ok_plan_ofS F T cPlan cis_above cfree_steps cstaying).imp fun vs H Q E h => by
  obtain ⟨e, q, evs, S, h1, h2, h3⟩ := h
  exact ⟨e, q, evs, S, h1, .inl (.inl (.inl h2)), h3⟩

end
end Pk

set_option Elab.async false
set_option linter.all false
set_option maxRecDepth 100000
set_option maxHeartbeats 4000000
namespace Pk
open PySem PySem.Spec PyProof.Rows L2 Pu
abbrev s_need_different : Stmt := topS 44
theorem sc_need_different : FnScope ["plan", "names", "index", "name"] ["plan", "names"] (defScope s_need_different) := ⟨rfl, rfl, rfl, by decide +kernel, rfl, by decide +kernel, by decide +kernel⟩
abbrev s_need_names : Stmt := topS 45
theorem sc_need_names : FnScope ["plan", "names"] ["plan", "names"] (defScope s_need_names) := ⟨rfl, rfl, rfl, by decide +kernel, rfl, by decide +kernel, by decide +kernel⟩
abbrev s_seen : Stmt := topS 59
theorem sc_seen : FnScope ["plan", "names", "sums", "events", "places", "left", "event", "first", "last"] ["plan", "names"] (defScope s_seen) := ⟨rfl, rfl, rfl, by decide +kernel, rfl, by decide +kernel, by decide +kernel⟩

section
variable {P : Program} {w : World} {K : PySem.W.Frag} {mg : Str → Option Value} {base : Heap}
/-! ### names of a plan; what is seen of it -/
def spDiff (K : PySem.W.Frag) (C : Addr) : Sp := fun vs H Q _ => ∃ (p a : Addr) (d : PlanD) (es : List Str), vs = [.ref p, .ref a] ∧ PlanAt K C H p d ∧ Sq K H a (es.map V.str) ∧ es.Nodup ∧ (∀ e ∈ es, e ∈ d.evs) ∧ ∀ H', Same H H' → Q .non H'
theorem ok_need_different {C f : Addr} {fd : FuncData} (F : Fun K "need_different" "need_different" s_need_different f fd) (T : Txt mg) (PI : PlanI K C) (cEvents : CalM P w K mg base 1 C "events" (spPEvents K C)) (cneed_event : Cal P w K mg base 1 "need_event" (spEvent K) []) : FnOk P w K mg base CX0 2 f fd ["plan", "names"] (spDiff K C) := by
  have nd := sc_need_different.nd
  refine F.ok sc_need_different (fun vs H Q E h => ?_) (fun cdv A outer s H vs Q E hr h => ?_)
  · obtain ⟨_, _, _, _, rfl, _⟩ := h
    rfl
  · obtain ⟨p, a, d, es, rfl, hp, hq, hnd, hin, q⟩ := h
    refine ⟨_, (pss_one (ps_for PassesOwn.never rfl (pi_enumS K rfl T.m_enumerate (pa_cons (pv 1) pa_nil)) (pg_tup rfl (pgs_cons (pg_name (i := 2) nd rfl (Or.inl rfl)) (pgs_cons (pg_name (i := 3) nd rfl (Or.inl rfl)) pgs_nil)))
      (pss_cons (ps_expr (pe_c cneed_event hr (by decide) rfl (pa_cons (pe_m0' (pv 0) PI.cls cEvents hr (by decide)) (pa_cons (pv 3) pa_nil))))
      (pss_one (ps_if (pt_cmpR (oIn K) (pv 3) (pe_slice (slSeq K) (pv 1) po_none (po_some (pv 2))) (by rfl))
      (pss_one ps_no) pss_nil))))), ?_⟩
    refine for_enumS (fun i σ H' => Same H H' ∧ ∃ v1 v2, σ = [some (.ref p), some (.ref a), v1, v2]) (fun Q hQ => ⟨_, rfl, hQ⟩) hq ⟨Same.refl _, _, _, rfl⟩ (fun _ _ _ _ p => p.1) (fun i x T1 σ H1 hx pv n1 => ?_) (fun σ H1 p => q _ p.1)
    obtain ⟨s1, v1, v2, rfl⟩ := pv
    have hi : i < es.length := by
      rw [← List.length_map (f := V.str)]
      exact (List.getElem?_eq_some_iff.mp hx).1
    have hxe : x = .str es[i] := by
      rw [List.getElem?_map, List.getElem?_eq_getElem hi] at hx
      cases hx
      rfl
    subst hxe
    have s2 : Same H (upd H1 T1 (.tup [.int (i : Nat), .str es[i]])) := Same.trans s1 (same_upd n1)
    refine ⟨T1, _, rfl, .inl (.inl upd_same), rfl, _, _, rfl, _, _, rfl, rfl, ?_⟩
    have hp2 := hp.same s2
    obtain ⟨dx, o, r, cc, ts0, g1, _⟩ := id hp2.ex
    dsimp only
    refine seq_st ?_
    refine ⟨_, rfl, p, dx, _, rfl, g1, rfl, p, d, rfl, hp2, fun l nl => ⟨_, rfl, l, d.evs, es[i], rfl, .inl (.inl (.inl upd_same)), hin _ (List.getElem_mem hi), ?_⟩⟩
    have s4 := Same.trans s2 (same_upd nl (o := .lst (d.evs.map V.str)))
    revert s4
    generalize upd (upd H1 T1 (.tup [.int (i : Nat), .str es[i]])) l (.lst (d.evs.map V.str)) = H2
    intro s4
    have hno : inV (.str es[i]) ((es.take i).map V.str) = false := by
      rw [inV_strs]
      refine decide_eq_false fun hm => ?_
      obtain ⟨j, hj, e⟩ := List.getElem_of_mem hm
      rw [List.getElem_take] at e
      have hj2 : j < i := by
        rw [List.length_take] at hj
        omega
      have := (List.getElem_inj (h₀ := by omega) (h₁ := hi) hnd).mp e
      omega
    refine ⟨_, rfl, _, rfl, ?_⟩
    have key : ∀ (H3 : Hp) (b : Addr), Same H2 H3 → Sq K H3 b (cutV (es.map V.str) none (some (i : Int))) → rIn K false (.str es[i]) (.ref b) H3 fun x H' => ∃ k, x = .bl k ∧ (if k = true then False else Same H H' ∧ ∃ v1 v2, [some (.ref p), some (.ref a), some (V.int (i : Nat)), some (V.str es[i])] = [some (.ref p), some (.ref a), v1, v2]) := by
      intro H3 b s5 hs
      rw [cut_to es i (by omega)] at hs
      refine ⟨b, _, rfl, hs, rfl, flat_strs _, _, rfl, ?_⟩
      rw [hno]
      exact ⟨Same.trans s4 s5, _, _, rfl⟩
    rcases sq_same hq s4 with hl | ht
    · exact ⟨_, rfl, _, rfl, .inl ⟨a, _, rfl, hl, fun b nb => .inr (key _ b (same_upd nb) (.inl (.inl (.inl upd_same))))⟩⟩
    · refine ⟨_, rfl, _, rfl, .inr ⟨a, _, rfl, ht, ?_, fun b nb => .inr (key _ b (same_upd nb) (.inr (.inl (.inl upd_same))))⟩⟩
      rintro ⟨_, h2⟩
      rw [HT.sIx_nat, List.length_map] at h2
      omega
def spNeedNames (K : PySem.W.Frag) (C : Addr) : Sp := fun vs H Q _ => ∃ (p a : Addr) (d : PlanD) (es : List Str), vs = [.ref p, .ref a] ∧ PlanAt K C H p d ∧ Sq K H a (es.map V.str) ∧ es.Nodup ∧ es ≠ [] ∧ (∀ e ∈ es, e ∈ d.evs) ∧ ∀ H', Same H H' → Q .non H'
theorem ok_need_names {C f : Addr} {fd : FuncData} (F : Fun K "need_names" "need_names" s_need_names f fd) (T : Txt mg) (cneed_different : Cal P w K mg base 2 "need_different" (spDiff K C) []) : FnOk P w K mg base CX0 3 f fd ["plan", "names"] (spNeedNames K C) := by
  have nd := sc_need_names.nd
  refine F.ok sc_need_names (fun vs H Q E h => ?_) (fun cdv A outer s H vs Q E hr h => ?_)
  · obtain ⟨_, _, _, _, rfl, _⟩ := h
    rfl
  · obtain ⟨p, a, d, es, rfl, hp, hq, hnd, hne, hin, q⟩ := h
    refine ⟨_, (pss_cons (ps_if (PW.pt (pw_or (pt_not (pt_val (pe_callB (isiTK K) (by rfl) T.m_isinstance PyProof.Rows.boot_isinstance (pa_cons (pv 1) (pa_cons (pe_tup (pa_cons (pe_bltn (v := .ty "list") rfl T.m_list PyProof.Rows.boot_list rfl) (pa_cons (pe_bltn (v := .ty "tuple") rfl T.m_tuple PyProof.Rows.boot_tuple rfl) pa_nil))) pa_nil))))) (pw_or1 (pt_not (pt_truth (pv 1) (fun _ => rfl))))))
      (pss_one ps_no) pss_nil)
      (pss_one (ps_expr (pe_c cneed_different hr (by decide) rfl (pa_cons (pv 0) (pa_cons (pv 1) pa_nil)))))), ?_⟩
    refine seq_st ?_
    refine ⟨_, rfl, sz 2, fun T0 n0 => ?_⟩
    have s0 : Same H (upd H T0 (.tup [.ty "list", .ty "tuple"])) := same_upd n0
    have hT : (upd H T0 (.tup [.ty "list", .ty "tuple"])) T0 = some (.tup [.ty "list", .ty "tuple"]) := upd_same
    revert s0 hT
    generalize upd H T0 (.tup [.ty "list", .ty "tuple"]) = H0
    intro s0 hT
    have hq0 := sq_same hq s0
    obtain ⟨t, hty, hk⟩ := ty_sq hq0
    refine ⟨_, T0, _, _, _, true, rfl, hT, .cons (.ty _) (.cons (.ty _) .nil), hty, hk, _, rfl, ?_⟩
    refine iteF ?_
    have hem : true = !(es.map V.str).isEmpty := by
      cases es with
      | nil => exact absurd rfl hne
      | cons _ _ => rfl
    have htr : TruV K (.ref a) H0 true := by
      rcases hq0 with hl | ht
      · exact .inl ⟨_, hl, hem⟩
      · exact .inr (.inl ⟨_, ht, hem⟩)
    refine ⟨_, rfl, true, htr, ?_⟩
    refine iteF ?_
    refine next_of ?_
    exact ⟨_, rfl, _, rfl, p, a, d, es, rfl, hp.same s0, hq0, hnd, hin, fun H1 s1 => q H1 (Same.trans s0 s1)⟩
def subS (evs : List Str) (d : PlanD) : Str → Str → Option Int := fun f l => if l ∈ ("" : Str) :: evs then getR (far d f) l else none
/-- a zero walk between events goes forward, or past nothing -/
theorem zero_walk {d : PlanD} (ok : PlanOk d) {ρ : Str → Nat} (hρ : ∀ t ∈ d.ties, t.2.2 = 0 → ρ t.1 < ρ t.2.1) {e l : Str} {w : Int} (he : e ∈ d.evs) (h : Wk (RowL (lawRows d)) e l w) : w = 0 → Wk (RowL (lawRows d)) "" l 0 ∨ e = l ∨ ρ e < ρ l := by
  induction h with
  | nil => intro _; exact .inr (.inl rfl)
  | @snoc k l a b hk r ih =>
    intro h0
    have ha := hk.nn (law_nn ok)
    have hb := law_nn ok _ _ _ r
    have hb0 : b = 0 := by omega
    have ih := ih (by omega)
    have r : (k, l, b) ∈ lawRows d := r
    have r0 := r
    unfold lawRows at r
    rcases List.mem_append.mp r with r | r
    · rcases List.mem_append.mp r with r | r
      · rcases ih with ih | ih | ih
        · have := ih.snoc (show RowL (lawRows d) k l b from r0)
          rw [hb0] at this
          exact .inl this
        · have := hρ _ r hb0
          rw [ih]
          exact .inr (.inr this)
        · have := hρ _ r hb0
          exact .inr (.inr (Nat.lt_trans ih this))
      · obtain ⟨c, hc, z⟩ := List.mem_map.mp r
        cases z
        have := Wk.one (show RowL (lawRows d) "" c.1 c.2 from r0)
        rw [hb0] at this
        exact .inl this
    · obtain ⟨g, _, z⟩ := List.mem_map.mp r
      cases z
      exact .inl .nil
theorem clP_far {d : PlanD} (ok : PlanOk d) {evs : List Str} (nd : evs.Nodup) (hs : ∀ e ∈ evs, e ∈ d.evs) : ClP "" evs (subS evs d) := by
  have up : ∀ {x}, x ∈ ("" : Str) :: evs → x ∈ ("" : Str) :: d.evs := fun {x} h => by
    rcases List.mem_cons.mp h with h | h
    · exact h ▸ List.mem_cons_self ..
    · exact List.mem_cons_of_mem _ (hs x h)
  have yes : ∀ {f l}, l ∈ ("" : Str) :: evs → subS evs d f l = getR (far d f) l := fun h => if_pos h
  have cl := far_cl ok
  have no : ("" : Str) ∉ evs := fun h => name_ne (ok.evs.nm _ (hs _ h)) rfl
  obtain ⟨ρ, hρ⟩ := ok.up
  refine ⟨no, nd, fun f hf l v hv => ?_, fun f hf => ?_, fun f hf k hk l a b h1 h2 => ?_, fun e he => ?_, fun e he l hl hne h1 h2 => ?_⟩
  · unfold subS at hv
    split at hv
    · rename_i hl
      exact ⟨hl, (cl.of (up hf) hv).1.nn cl.nn⟩
    · cases hv
  · rw [yes hf]
    exact cl.self (up hf)
  · unfold subS at h2
    split at h2
    · rename_i hl
      rw [yes hk] at h1
      rw [yes hl]
      obtain ⟨v, h3, h4, _⟩ := cl.tri (up hf) (up hk) h1 h2
      exact ⟨v, h3, h4⟩
    · cases h2
  · rw [yes (List.mem_cons_self ..)]
    obtain ⟨v, h3, h4, h5⟩ := cl.wk (up (List.mem_cons_of_mem _ he)) (.one (show RowL (lawRows d) e "" 0 from List.mem_append_right _ (List.mem_map_of_mem (f := fun e => (e, ("" : Str), (0 : Int))) (hs e he))))
    have : v = 0 := by omega
    rw [this] at h3
    exact h3
  · have me := List.mem_cons_of_mem ("" : Str) he
    have ml := List.mem_cons_of_mem ("" : Str) hl
    have m0 : ("" : Str) ∈ ("" : Str) :: evs := List.mem_cons_self ..
    rw [yes ml] at h1
    rw [yes me] at h2 ⊢
    have w1 := (cl.of (up me) h1).1
    have w2 := (cl.of (up ml) h2).1
    have fin : Wk (RowL (lawRows d)) "" e 0 → getR (far d "") e = some 0 := fun w => by
      obtain ⟨v, h3, h4, h5⟩ := cl.wk (up m0) w
      have : v = 0 := by omega
      rw [this] at h3
      exact h3
    rcases zero_walk ok hρ (hs e he) w1 rfl with q | q | q
    · have := q.app w2
      rw [Int.add_zero] at this
      exact fin this
    · exact absurd q hne
    · rcases zero_walk ok hρ (hs l hl) w2 rfl with q2 | q2 | q2
      · exact fin q2
      · exact absurd q2.symm hne
      · omega
def rowOf (ps : List Str) (S : Str → Str → Option Int) (f : Str) : SR := ps.filterMap fun l => (S f l).map fun v => (l, v)
theorem rowOf_get {ps : List Str} {S : Str → Str → Option Int} {f : Str} (nd : ps.Nodup) : ((rowOf ps S f).map (·.1)).Nodup ∧ (∀ j ∈ (rowOf ps S f).map (·.1), j ∈ ps) ∧ ∀ l, getR (rowOf ps S f) l = if l ∈ ps then S f l else none := by
  have e : (rowOf ps S f).map (·.1) = ps.filter fun l => (S f l).isSome := by
    unfold rowOf
    induction ps with
    | nil => rfl
    | cons x r ih =>
      rw [List.filterMap_cons, List.filter_cons]
      cases h : S f x with
      | none => exact ih (List.nodup_cons.mp nd).2
      | some v => exact congrArg (List.cons x) (ih (List.nodup_cons.mp nd).2)
  have n1 : ((rowOf ps S f).map (·.1)).Nodup := by rw [e]; exact nd.filter _
  refine ⟨n1, fun j hj => ?_, fun l => ?_⟩
  · rw [e] at hj
    exact (List.mem_filter.mp hj).1
  · by_cases hl : l ∈ ps
    · rw [if_pos hl]
      cases h : S f l with
      | none =>
        cases hg : getR (rowOf ps S f) l with
        | none => rfl
        | some v =>
          have := (keys_iff (r := rowOf ps S f) (l := l)).mpr (by rw [hg]; rfl)
          rw [e] at this
          have h7 := (List.mem_filter.mp this).2
          rw [h] at h7
          cases h7
      | some v => exact getR_nd n1 (List.mem_filterMap.mpr ⟨l, hl, by rw [h]; rfl⟩)
    · rw [if_neg hl]
      cases hg : getR (rowOf ps S f) l with
      | none => rfl
      | some v =>
        have := (keys_iff (r := rowOf ps S f) (l := l)).mpr (by rw [hg]; rfl)
        rw [e] at this
        exact absurd (List.mem_filter.mp this).1 hl
def spSeen (K : PySem.W.Frag) (C : Addr) : Sp := fun vs H Q _ => ∃ (p a : Addr) (d : PlanD) (es : List Str), vs = [.ref p, .ref a] ∧ PlanAt K C H p d ∧ PlanOk d ∧ Sq K H a (es.map V.str) ∧ es.Nodup ∧ es ≠ [] ∧ (∀ e ∈ es, e ∈ d.evs) ∧
  ∀ q H', Same H H' → H q = none → PlanAt K C H' q (planOf (d.evs.filter fun e => decide (e ∈ es)) (subS (d.evs.filter fun e => decide (e ∈ es)) d)) → Q (.ref q) H'
theorem ok_seen {C CE f : Addr} {fd : FuncData} (F : Fun K "seen" "seen" s_seen f fd) (T : Txt mg) (PI : PlanI K C) (cEvents : CalM P w K mg base 1 C "events" (spPEvents K C)) (cneed_plan : CalX P w K mg base 1 "need_plan" (spNeedPlan K C CE)) (cneed_names : Cal P w K mg base 3 "need_names" (spNeedNames K C) []) (cclosed_sums : Cal P w K mg base 3 "closed_sums" (spClosedSm K C) []) (cplan_of : Cal P w K mg base 7 "plan_of" (spPlanOf K C) []) :
    FnOk P w K mg base CX0 8 f fd ["plan", "names"] (spSeen K C) := by
  have nd := sc_seen.nd
  refine F.ok sc_seen (fun vs H Q E h => ?_) (fun cdv A outer s H vs Q E hr h => ?_)
  · obtain ⟨_, _, _, _, rfl, _⟩ := h
    rfl
  · obtain ⟨p, a, d, es, rfl, hp, ok, hq, hnd, hne, hin, qq⟩ := h
    have hu := hu_of hr
    refine ⟨_, (pss_cons (ps_expr (pe_cX0 cneed_plan hr (by decide) rfl (pa_cons (pv 0) pa_nil)))
      (pss_cons (ps_expr (pe_c cneed_names hr (by decide) rfl (pa_cons (pv 0) (pa_cons (pv 1) pa_nil))))
      (pss_cons (ps_set (i := 2) nd rfl (Or.inr rfl) (pe_c cclosed_sums hr (by decide) rfl (pa_cons (pv 0) pa_nil)))
      (pss_cons (ps_setLc (i := 3) (y := "events") (own := [("event", 6)]) (g := gName 6) rfl nd rfl rfl (sw_true rfl rfl rfl (by decide +kernel)) (pi_list (pe_m0' (pv 0) PI.cls cEvents hr (by decide))) (blkOk_by (N := ["plan", "names", "sums", "events", "places", "left", "event", "first", "last"]) (sc := defScope s_seen) (by decide +kernel)) (fun _ _ _ _ _ => pg_name (i := 6) nd rfl (Or.inl rfl)) (fun _ _ _ _ _ => pts_one (pt_cmpR (oIn K) (pv 6) (pv 1) (by rfl))) (fun _ _ _ _ _ => (pv 6)))
      (pss_cons (ps_set (i := 4) nd rfl (Or.inr rfl) (pe_lst (pa_cons (pe_gs rfl T.m_NOTHING) (StX.pa_star (pv 3) pa_nil))))
      (pss_cons (ps_setDc (i := 5) (y := "left") (own := [("first", 7)]) (g := gName 7) (tt := tYes) rfl nd rfl rfl (sw_dict rfl rfl rfl (by decide +kernel)) (pi_list (pv 4)) (blkOk_by (N := ["plan", "names", "sums", "events", "places", "left", "event", "first", "last"]) (sc := defScope s_seen) (by decide +kernel)) (fun _ _ _ _ _ => pg_name (i := 7) nd rfl (Or.inr rfl)) (fun _ _ _ _ _ => pts_nil) (fun _ _ _ _ _ => (pv 7)) (fun _ _ _ _ _ => (by exact (pe_dc (own := [("last", 8)]) (g := gName 8) (wi := iList K (tVar 4)) rfl nd (pi_list (pv 4)) (blkOk_by (N := ["plan", "names", "sums", "events", "places", "left", "event", "first", "last"]) (sc := { kind := .function, names := [(".0", .local), ("first", .cell), ("places", .cell), ("sums", .cell)], isGenerator := false, isCoroutine := false }) (by decide +kernel)) (fun _ _ _ _ _ => pg_name (i := 8) nd rfl (Or.inl rfl)) (fun _ _ _ _ _ => pts_one (pt_cmp (pc_din hu (pv 8) (pe_dget hu (pv 2) (pv 7) (fun _ _ => rfl))) (by rfl))) (fun _ _ _ _ _ => (pv 8)) (fun _ _ _ _ _ => (pe_dget hu (pe_dget hu (pv 2) (pv 7) (fun _ _ => rfl)) (pv 8) (fun _ _ => rfl)))))))
      (pss_one (ps_ret (pe_c cplan_of hr (by decide) rfl (pa_cons (pv 3) (pa_cons (pv 5) pa_nil))))))))))), ?_⟩
    have hl8 := ok.evs.hi
    refine ⟨_, rfl, _, rfl, .inl ⟨p, d, rfl, hp, ?_⟩⟩
    dsimp only
    refine seq_st ?_
    refine ⟨_, rfl, _, rfl, p, a, d, es, rfl, hp, hq, hnd, hne, hin, fun H1 s1 => ?_⟩
    dsimp only
    refine seq_asg ?_
    refine ⟨_, rfl, p, d, rfl, hp.same s1, ok, fun q H2 s2 hS => ?_⟩
    have s02 := Same.trans s1 s2
    have hp2 := hp.same s02
    obtain ⟨dx, o, r, cc, ts0, g1, _⟩ := id hp2.ex
    refine gname (seq_asg ?_)
    refine ⟨_, rfl, p, dx, _, rfl, g1, rfl, p, d, rfl, hp2, fun l nl => ⟨l, rfl, ⟨_, .inl (.inl upd_same)⟩, fun D hD => ?_⟩⟩
    have sl := same_upd nl (o := .lst (d.evs.map V.str))
    have kl : (upd H2 l (.lst (d.evs.map V.str))) l = some (.lst (d.evs.map V.str)) := upd_same
    have s03 := Same.trans s02 sl
    have hS3 := hS.same sl
    revert hD kl s03 hS3
    generalize upd H2 l (.lst (d.evs.map V.str)) = H3
    intro hD kl s03 hS3
    clear sl nl g1 hp2 s02 hS s2 s1
    refine lc_flt (fun e => decide (e ∈ es)) (walk_list (K := K) (a := l) (xs := d.evs.map V.str)) hD (fun H' s => .inl (.inl (s _ _ kl))) (fun _ => rfl) (fun e he H' s' N hN => ?_) (fun e H' N hN => ⟨_, rfl, hN⟩) (fun H4 s4 hH4 => ?_)
    · refine ⟨_, rfl, _, rfl, .inr ⟨a, _, rfl, sq_same hq (Same.trans s03 s'), rfl, flat_strs _, _, rfl, ?_⟩⟩
      rw [if_neg (by decide), inV_strs]
      exact hN H' (Same.refl _)
    have s04 := Same.trans s03 s4
    have hS4 := hS3.same s4
    have nD0 := s03.free hD
    revert hH4
    generalize hevs : d.evs.filter (fun e => decide (e ∈ es)) = evs
    intro hH4
    have hsub : ∀ e ∈ evs, e ∈ d.evs := fun e he => by
      rw [← hevs] at he
      exact (List.mem_filter.mp he).1
    have hend : evs.Nodup := by rw [← hevs]; exact ok.evs.nd.filter _
    have hel : evs.length ≤ 8 := by rw [← hevs]; exact Nat.le_trans (List.length_filter_le _ _) hl8
    have hev : EvsOk evs := by
      refine ⟨?_, hel, fun e he => ok.evs.nm e (hsub e he), hend⟩
      cases es with
      | nil => exact absurd rfl hne
      | cons x r =>
        have : x ∈ evs := by rw [← hevs]; exact List.mem_filter.mpr ⟨hin x (List.mem_cons_self ..), decide_eq_true (List.mem_cons_self ..)⟩
        exact List.length_pos_of_mem this
    clear hS3 hD s4 kl
    have nd9 : (("" : Str) :: evs).Nodup := List.nodup_cons.mpr ⟨fun h => name_ne (ok.evs.nm _ (hsub _ h)) rfl, hend⟩
    refine gname (seq_asg ?_)
    refine ⟨_, rfl, D, _, rfl, .inr (.inl (.inl hH4)), ?_, fun pl npl => ?_⟩
    · show (V.str "" :: (evs.map V.str ++ [])).length ≤ sizeLine
      rw [List.append_nil, List.length_cons, List.length_map]
      exact Nat.le_trans (by omega) (sz 100)
    have e1 : V.str ("" : Str) :: (evs.map V.str ++ []) = (("" : Str) :: evs).map V.str := by rw [List.append_nil]; rfl
    have sp := same_upd npl (o := .lst (V.str ("" : Str) :: (evs.map V.str ++ [])))
    have kp : (upd H4 pl (.lst (V.str ("" : Str) :: (evs.map V.str ++ [])))) pl = some (.lst (V.str ("" : Str) :: (evs.map V.str ++ []))) := upd_same
    have s05 := Same.trans s04 sp
    have hS5 := hS4.same sp
    have kD5 := sp _ _ hH4
    revert kp s05 hS5 kD5
    generalize upd H4 pl (.lst (V.str ("" : Str) :: (evs.map V.str ++ []))) = H5
    intro kp s05 hS5 kD5
    rw [e1] at kp
    clear sp npl hS4 hH4 s04
    have hl9 : (("" : Str) :: evs).length ≤ 9 := by rw [List.length_cons]; omega
    have hup : ∀ f ∈ ("" : Str) :: evs, f ∈ ("" : Str) :: d.evs := fun f hf => by
      rcases List.mem_cons.mp hf with h | h
      · exact h ▸ List.mem_cons_self ..
      · exact List.mem_cons_of_mem _ (hsub f h)
    refine gname (seq_asg ?_)
    refine ⟨_, rfl, pl, rfl, ⟨_, .inl (.inl kp)⟩, fun L nL => ?_⟩
    refine dcK_it (walk_list (K := K) (a := pl) (xs := (("" : Str) :: evs).map V.str)) (fun i H' => OutAt H5 L (("" : Str) :: evs) (fun f => .dK (kvR V.int (rowOf (("" : Str) :: evs) (farS d) f))) i H') (OutAt.begin nL) (fun i H' _ pv => .inl (.inl (pv.1 _ _ kp))) (fun i x H6' H6 hi pv yv => ?_) (fun H6 pv => ?_)
    · obtain ⟨rfl, hx⟩ := yv
      obtain ⟨f, hf, rfl⟩ := strs_get hx
      have hfm := List.mem_of_getElem? hf
      have s6 := pv.1
      refine ⟨rfl, _, rfl, ?_⟩
      refine ⟨_, rfl, pl, rfl, ⟨_, .inl (.inl (s6 _ _ kp))⟩, fun R nR => ?_⟩
      refine dcK_it (walk_list (K := K) (a := pl) (xs := (("" : Str) :: evs).map V.str)) (fun j H' => Same H6 H' ∧ H' R = some (.dK (kvR V.int (((("" : Str) :: evs).take j).filterMap fun l => (farS d f l).map fun v => (l, v))))) ⟨same_upd nR, upd_same⟩ (fun j H' _ pv => .inl (.inl (pv.1 _ _ (s6 _ _ kp)))) (fun j x H7' H7 hj pv7 yv => ?_) (fun H7 pv7 => ?_)
      · obtain ⟨rfl, hx⟩ := yv
        obtain ⟨g, hg, rfl⟩ := strs_get hx
        obtain ⟨s7, hR7⟩ := pv7
        have htk : (("" : Str) :: evs).take (j + 1) = (("" : Str) :: evs).take j ++ [g] := by rw [List.take_add_one, hg]; rfl
        obtain ⟨b, kvs, d1, d2, d3⟩ := hS5.g.same (Same.trans s6 s7) f (hup f hfm)
        refine ⟨rfl, _, rfl, _, rfl, _, rfl, q, _, rfl, d1, b, _, rfl, d3 g, _, rfl, ?_⟩
        rw [isSome_int]
        cases hs : farS d f g with
        | none =>
          refine iteF ?_
          refine ⟨s7, ?_⟩
          rw [htk, List.filterMap_append, List.filterMap_cons, hs]
          show H7 R = some (.dK (kvR V.int (_ ++ [])))
          rw [List.append_nil]
          exact hR7
        | some v =>
          refine iteT ?_
          have dv : DGet H7 b (.str g) (some (.int v)) := by
            have := d3 g
            rw [hs] at this
            exact this
          have hnk : g ∉ (((("" : Str) :: evs).take j).filterMap fun l => (farS d f l).map fun v => (l, v)).map (·.1) := fun z => by
            obtain ⟨c, hc, e⟩ := List.mem_map.mp z
            obtain ⟨y, hy, e2⟩ := List.mem_filterMap.mp hc
            have : c.1 = y := by
              cases hq : farS d f y with
              | none => rw [hq] at e2; cases e2
              | some u => rw [hq] at e2; cases e2; rfl
            rw [← e, this] at hg
            exact take_notin nd9 hg hy
          refine ⟨_, rfl, _, rfl, _, rfl, q, _, rfl, d1, _, rfl, b, _, rfl, dv, _, .inr g, rfl, hR7, ?_, same_put nR s7, ?_⟩
          · rw [kvR_len]
            exact Nat.lt_of_le_of_lt (Nat.le_trans (List.length_filterMap_le ..) (by rw [List.length_take]; exact Nat.min_le_right _ _)) (Nat.lt_of_lt_of_le (by omega) (sz 10))
          · rw [upd_same, putK_new _ (by rw [valV_kvR, getR_none hnk]; rfl), htk, List.filterMap_append, List.filterMap_cons, hs]
            unfold kvR
            rw [List.map_append]
            rfl
      · obtain ⟨s7, hR7⟩ := pv7
        rw [List.length_map, List.take_length] at hR7
        obtain ⟨kvs, hk, hkl, hn⟩ := pv.step nL nd9 hf nR s7 hR7
        exact ⟨kvs, .inr f, rfl, hk, Nat.lt_of_le_of_lt hkl (Nat.lt_of_lt_of_le (by rw [List.length_map] at hi; omega) (sz 1000)), hn⟩
    rw [List.length_map] at pv
    obtain ⟨s6, sa, hsd, hsr, _⟩ := pv
    rw [List.take_length] at hsd hsr
    have s06 := Same.trans s05 s6
    refine gname ?_
    have hSm : SmAt H6 L (("" : Str) :: evs) (subS evs d) := by
      refine ⟨sa, fun f => rowOf (("" : Str) :: evs) (farS d) f, hsd, fun f hf => (hsr f hf).1, fun f hf => ?_⟩
      obtain ⟨n1, n2, n3⟩ := rowOf_get (S := farS d) (f := f) nd9
      exact ⟨n1, n2, n3⟩
    refine ⟨_, rfl, _, rfl, D, L, evs, _, rfl, s6 _ _ kD5, hSm, hev, clP_far ok hend hsub, fun r H7 s7 nr hr7 => ?_⟩
    refine qq r H7 (Same.trans s06 s7) (s06.free nr) ?_
    rw [hevs]
    exact hr7

end
end Pk

set_option Elab.async false
set_option linter.all false
set_option maxRecDepth 100000
set_option maxHeartbeats 4000000
/-! the least one of no items: what it is by default -/
namespace Pu
open PySem PySem.Spec PyProof.Rows L2
theorem args_minKD (a v d : Value) : argsOk "min" ⟨[a], [(Str.ofString "key", v), (Str.ofString "default", d)]⟩ := by unfold argsOk; kernel_rfl
def rMinDef0 (K : PySem.W.Frag) : List V → List V → Hp → VK → Prop := fun vs zs H Q => ∃ (p q : Addr) (d : V), vs = [.ref p] ∧ zs = [.ref q, d] ∧ SqL K H p [] ∧ Q d H
theorem cr_minDef0 {X : Cx} (K : PySem.W.Frag) (hc : X.calm = true) (hK : X.K = K := by rfl) : CallRK X (.builtin "min") [Str.ofString "key", Str.ofString "default"] (rMinDef0 K) := by
  subst hK
  intro pins s σ H vs zs us ws Q I r rz h
  obtain ⟨l, q, d, rfl, rfl, hs, hq⟩ := h
  obtain rfl := Vals.ref1 r
  obtain ⟨w1, w2, rfl, e1, rd⟩ : ∃ w1 w2, ws = [w1, w2] ∧ w1 = Value.ref q ∧ RelV d w2 := by
    rcases rz with _ | ⟨a, b⟩
    rcases b with _ | ⟨b, c⟩
    cases c
    exact ⟨_, _, rfl, a, b⟩
  obtain rfl : w1 = Value.ref q := e1
  obtain ⟨its, rv, hl, hz⟩ := I.list hs
  cases rv
  have hls := hl.isList
  have hh : X.A.handled = none := I.ok.hd hc
  have hname : (toString "min" ++ toString ".loop" : String) = "min.loop" := by decide
  obtain ⟨ol, hol, _⟩ := id hls
  have hll : l < s.heap.objs.size := Heap.lt_size hol
  refine kmk_tree PySem.F.kind_min PySem.F.plain_min PySem.F.entry_min (args_minKD _ _ _) ?_
  show wpAny _ X.A.in1 (Builtin.Builtins.bindParams "min" ["key", "default"] 0 ⟨[], [(Str.ofString "key", .ref q), (Str.ofString "default", w2)]⟩ >>= _) _ _ s
  refine wpAny_bind (wpAny_of_eq (show Builtin.Builtins.bindParams "min" ["key", "default"] 0 ⟨[], [(Str.ofString "key", .ref q), (Str.ofString "default", w2)]⟩ = pure [some (.ref q), some w2] from rfl) ?_)
  refine wpAny_bind (wpAny_pure ?_)
  refine wpAny_bind (wpAny_pyIter_list hls ?_)
  refine wpAny_bind (wpAny_newList ?_ (Nat.zero_le _))
  rw [hname]
  have hS : (s.heap.push { cls := .type "list_iterator", data := .fields #[.ref l, .int 0 0] }).objs.size = s.heap.objs.size + 1 := size_push' ..
  have hlI : l ≠ s.heap.objs.size := Nat.ne_of_lt hll
  have hSI : (s.heap.push { cls := .type "list_iterator", data := .fields #[.ref l, .int 0 0] }).objs.size ≠ s.heap.objs.size := by rw [hS]; exact Nat.ne_of_gt (Nat.lt_succ_self _)
  refine wpAny_pure ⟨plainId_quiet PySem.F.plain_min_loop _, ?_⟩
  have gI : ((s.heap.push { cls := .type "list_iterator", data := .fields #[.ref l, .int 0 0] }).push (seqObj "list" #[] 0)).get? s.heap.objs.size = some { cls := .type "list_iterator", data := .fields #[.ref l, .int 0 0] } :=
    Heap.get?_push_of_some _ (Heap.get?_push_size _ rfl)
  have gS : ((s.heap.push { cls := .type "list_iterator", data := .fields #[.ref l, .int 0 0] }).push (seqObj "list" #[] 0)).get? (s.heap.push { cls := .type "list_iterator", data := .fields #[.ref l, .int 0 0] }).objs.size = some (seqObj "list" #[] 0) := Heap.get?_push_size _ rfl
  have W := Walks.list (prog := X.prog) (w := X.w) (A := X.A.in1) hh s.heap.objs.size l hlI #[]
  refine codeAny_builtin PySem.F.entry_min_loop ?_
  rw [Around.under_plainId PySem.F.plain_min_loop _]
  show wpAny _ X.A.in1 (seqItems? (.ref _) >>= _) _ _ _
  refine wpAny_bind (wpAny_seqItems gS rfl ?_)
  show wpAny _ X.A.in1 (tryCatch (pyNext (.ref s.heap.objs.size)) _ >>= _) _ _ _
  refine wpAny_bind (wpAny_tryCatch (W.done _ _ _ ⟨⟨_, gI, rfl, rfl⟩, ?_⟩ fun h' tk' hk' => ?_))
  · exact hls.imp fun o h => ⟨Heap.get?_push_of_some _ (Heap.get?_push_of_some _ h.1), h.2⟩
  · refine wpAny_bind (wpAny_rule (wpAny_pure ?_))
    refine ⟨d, H, I.kept (fun b u e => ?_), rd, hq⟩
    exact hk' b u (fun z => Nat.lt_irrefl _ (List.mem_singleton.mp z ▸ Heap.lt_size e)) (Heap.get?_push_of_some _ (Heap.get?_push_of_some _ e))
end Pu

set_option Elab.async false
set_option linter.all false
set_option maxRecDepth 100000
set_option maxHeartbeats 4000000
namespace Pk
open PySem PySem.Spec PyProof.Rows L2 Pu
abbrev s_need_like : Stmt := topS 43
theorem sc_need_like : FnScope ["events", "plan"] ["events", "plan"] (defScope s_need_like) := ⟨rfl, rfl, rfl, by decide +kernel, rfl, by decide +kernel, by decide +kernel⟩
abbrev s_need_alike_events : Stmt := topS 50
theorem sc_need_alike_events : FnScope ["one", "other"] ["one", "other"] (defScope s_need_alike_events) := ⟨rfl, rfl, rfl, by decide +kernel, rfl, by decide +kernel, by decide +kernel⟩
abbrev s_breaches : Stmt := topS 49
theorem sc_breaches : FnScope ["sums", "plan", "most", "limits", "ties", "found", "broken", "tie", "earlier", "later", "lag", "event"] ["sums", "plan"] (defScope s_breaches) := ⟨rfl, rfl, rfl, by decide +kernel, rfl, by decide +kernel, by decide +kernel⟩

section
variable {P : Program} {w : World} {K : PySem.W.Frag} {mg : Str → Option Value} {base : Heap}
/-! ### two plans with the same events -/
def spNeedLike (K : PySem.W.Frag) (C : Addr) : Sp := fun vs H Q _ => ∃ (a p : Addr) (d : PlanD), vs = [.ref a, .ref p] ∧ H a = some (.lst (d.evs.map V.str)) ∧ PlanAt K C H p d ∧ ∀ H', Same H H' → Q .non H'
theorem ok_need_like {C CE f : Addr} {fd : FuncData} (F : Fun K "need_like" "need_like" s_need_like f fd) (T : Txt mg) (PI : PlanI K C) (cEvents : CalM P w K mg base 1 C "events" (spPEvents K C)) (cneed_plan : CalX P w K mg base 1 "need_plan" (spNeedPlan K C CE)) : FnOk P w K mg base CX0 2 f fd ["events", "plan"] (spNeedLike K C) := by
  have nd := sc_need_like.nd
  refine F.ok sc_need_like (fun vs H Q E h => ?_) (fun cdv A outer s H vs Q E hr h => ?_)
  · obtain ⟨_, _, _, rfl, _⟩ := h
    rfl
  · obtain ⟨a, p, d, rfl, ha, hp, qq⟩ := h
    refine ⟨_, (pss_cons (ps_expr (pe_cX0 cneed_plan hr (by decide) rfl (pa_cons (pv 1) pa_nil)))
      (pss_one (ps_if (pt_cmpR (op_neB K hr) (pe_m0' (pv 1) PI.cls cEvents hr (by decide)) (pv 0) (by rfl))
      (pss_one ps_no) pss_nil))), ?_⟩
    refine ⟨_, rfl, _, rfl, .inl ⟨p, d, rfl, hp, ?_⟩⟩
    obtain ⟨dx, o, r, cc, ts0, g1, _⟩ := id hp.ex
    dsimp only
    refine ⟨_, rfl, p, dx, _, rfl, g1, rfl, p, d, rfl, hp, fun l nl => ⟨_, rfl, 1, true, by decide, strs_eq (.inl (.inl upd_same)) (.inl (.inl (same_upd nl _ _ ha))), _, rfl, iteF (next_of (qq _ (same_upd nl)))⟩⟩
def spAlikeEv (K : PySem.W.Frag) (C : Addr) : Sp := fun vs H Q _ => ∃ (p q : Addr) (d d2 : PlanD), vs = [.ref p, .ref q] ∧ PlanAt K C H p d ∧ PlanAt K C H q d2 ∧ d2.evs = d.evs ∧ ∀ H', Same H H' → Q .non H'
theorem ok_alike_ev {C CE f : Addr} {fd : FuncData} (F : Fun K "need_alike_events" "need_alike_events" s_need_alike_events f fd) (T : Txt mg) (PI : PlanI K C) (cEvents : CalM P w K mg base 1 C "events" (spPEvents K C)) (cneed_plan : CalX P w K mg base 1 "need_plan" (spNeedPlan K C CE)) (cneed_like : Cal P w K mg base 2 "need_like" (spNeedLike K C) []) : FnOk P w K mg base CX0 3 f fd ["one", "other"] (spAlikeEv K C) := by
  have nd := sc_need_alike_events.nd
  refine F.ok sc_need_alike_events (fun vs H Q E h => ?_) (fun cdv A outer s H vs Q E hr h => ?_)
  · obtain ⟨_, _, _, _, rfl, _⟩ := h
    rfl
  · obtain ⟨p, q, d, d2, rfl, hp, hq, he, qq⟩ := h
    refine ⟨_, (pss_cons (ps_expr (pe_cX0 cneed_plan hr (by decide) rfl (pa_cons (pv 0) pa_nil)))
      (pss_one (ps_expr (pe_c cneed_like hr (by decide) rfl (pa_cons (pe_m0' (pv 0) PI.cls cEvents hr (by decide)) (pa_cons (pv 1) pa_nil)))))), ?_⟩
    refine ⟨_, rfl, _, rfl, .inl ⟨p, d, rfl, hp, ?_⟩⟩
    obtain ⟨dx, o, r, cc, ts0, g1, _⟩ := id hp.ex
    dsimp only
    refine ⟨_, rfl, p, dx, _, rfl, g1, rfl, p, d, rfl, hp, fun l nl => ⟨_, rfl, l, q, d2, rfl, by rw [he]; exact upd_same, hq.same (same_upd nl), fun H' s' => qq _ (Same.trans (same_upd nl) s')⟩⟩
/-! ### none of them breaks a tie or a limit -/
def NoBreach (S : Str → Str → Option Int) (d : PlanD) : Prop := (∀ t ∈ d.ties, ∃ v, S t.1 t.2.1 = some v ∧ v ≤ t.2.2) ∧ ∀ c ∈ d.caps, ∃ v, S "" c.1 = some v ∧ v ≤ c.2
def spNone : Sp := fun _ _ _ _ => False
def spBreach (K : PySem.W.Frag) (C : Addr) : Sp := fun vs H Q _ => ∃ (q p : Addr) (d : PlanD) (S : Str → Str → Option Int), vs = [.ref q, .ref p] ∧ SmAt H q (("" : Str) :: d.evs) S ∧ PlanAt K C H p d ∧ PlanOk d ∧ NoBreach S d ∧ ∀ l H', Same H H' → H' l = some (.lst []) → Q (.ref l) H'
theorem ok_breaches {C f : Addr} {fd : FuncData} (F : Fun K "breaches" "breaches" s_breaches f fd) (T : Txt mg) (PI : PlanI K C) (cEvents : CalM P w K mg base 1 C "events" (spPEvents K C)) (cTies : CalM P w K mg base 1 C "ties" (spPTies K C)) (cLimits : CalM P w K mg base 1 C "limits" (spPLimits K C)) (cis_above : Cal P w K mg base 1 "is_above" spAbove []) (cleast_moment : Cal P w K mg base 1 "least_moment" spNone []) : FnOk P w K mg base CX0 2 f fd ["sums", "plan"] (spBreach K C) := by
  have nd := sc_breaches.nd
  refine F.ok sc_breaches (fun vs H Q E h => ?_) (fun cdv A outer s H vs Q E hr h => ?_)
  · obtain ⟨_, _, _, _, rfl, _⟩ := h
    rfl
  · obtain ⟨q, p, d, S, rfl, hS, hp, ok, hN, qq⟩ := h
    have hu := hu_of hr
    refine ⟨_, (pss_cons (ps_set (i := 2) nd rfl (Or.inr rfl) (pe_dget hu (pv 0) (pe_gs rfl T.m_NOTHING) (fun _ _ => rfl)))
      (pss_cons (ps_set (i := 3) nd rfl (Or.inr rfl) (pe_m0' (pv 1) PI.cls cLimits hr (by decide)))
      (pss_cons (ps_setLc (i := 4) (y := "ties") (own := [("tie", 7)]) (g := gName 7) rfl nd rfl rfl (sw_true rfl rfl rfl (by decide +kernel)) (pi_list (pe_m0' (pv 1) PI.cls cTies hr (by decide))) (blkOk_by (N := ["sums", "plan", "most", "limits", "ties", "found", "broken", "tie", "earlier", "later", "lag", "event"]) (sc := defScope s_breaches) (by decide +kernel)) (fun _ _ _ _ _ => pg_name (i := 7) nd rfl (Or.inl rfl)) (fun _ _ _ _ _ => pts_one (pt_val (pe_c cis_above hr (by decide) rfl (pa_cons (pe_dget1 hu (pe_dget hu (pv 0) (pe_ix (ixT K) (pv 7) pe_int (fun _ _ => rfl)) (fun _ _ => rfl)) (pe_ix (ixT K) (pv 7) pe_int (fun _ _ => rfl)) (by constructor <;> intros <;> rfl)) (pa_cons (pe_ix (ixT K) (pv 7) pe_int (fun _ _ => rfl)) pa_nil))))) (fun _ _ _ _ _ => (pv 7)))
      (pss_cons (ps_setLc (i := 5) (y := "found") (own := [("earlier", 8), ("later", 9), ("lag", 10)]) (g := (gTup K 3 (gCons (gName 8) (gCons (gName 9) (gCons (gName 10) gNil))))) (tt := tYes) rfl nd rfl rfl (sw_true rfl rfl rfl (by decide +kernel)) (pi_list (pv 4)) (blkOk_by (N := ["sums", "plan", "most", "limits", "ties", "found", "broken", "tie", "earlier", "later", "lag", "event"]) (sc := defScope s_breaches) (by decide +kernel)) (fun _ _ _ _ _ => (pg_tup rfl (pgs_cons (pg_name (i := 8) nd rfl (Or.inl rfl)) (pgs_cons (pg_name (i := 9) nd rfl (Or.inl rfl)) (pgs_cons (pg_name (i := 10) nd rfl (Or.inl rfl)) pgs_nil))))) (fun _ _ _ _ _ => pts_nil) (fun _ _ _ _ _ => (pe_c cleast_moment hr (by decide) rfl (pa_cons (pv 0) (pa_cons (pv 9) (pa_cons (pe_op oAdd (pv 10) pe_int) pa_nil))))))
      (pss_cons (ps_setLc (i := 6) (y := "broken") (own := [("event", 11)]) (g := gName 11) rfl nd rfl rfl (sw_true rfl rfl rfl (by decide +kernel)) (pi_list (pe_m0' (pv 1) PI.cls cEvents hr (by decide))) (blkOk_by (N := ["sums", "plan", "most", "limits", "ties", "found", "broken", "tie", "earlier", "later", "lag", "event"]) (sc := defScope s_breaches) (by decide +kernel)) (fun _ _ _ _ _ => pg_name (i := 11) nd rfl (Or.inl rfl)) (fun _ _ _ _ _ => pts_one (PW.pt (pw_and (pt_cmp (pc_din hu (pv 11) (pv 3)) (by rfl)) (pw_and1 (pt_val (pe_c cis_above hr (by decide) rfl (pa_cons (pe_dget1 hu (pv 2) (pv 11) (by constructor <;> intros <;> rfl)) (pa_cons (pe_dget hu (pv 3) (pv 11) (fun _ _ => rfl)) pa_nil)))))))) (fun _ _ _ _ _ => (pv 11)))
      (pss_one (ps_ret (pe_lst (StX.pa_star (pv 5) (StX.pa_star (pe_lc (own := [("event", 11)]) (g := gName 11) (tt := tYes) rfl nd (pi_list (pv 6)) (blkOk_by (N := ["sums", "plan", "most", "limits", "ties", "found", "broken", "tie", "earlier", "later", "lag", "event"]) (sc := defScope s_breaches) (by decide +kernel)) (fun _ _ _ _ _ => pg_name (i := 11) nd rfl (Or.inl rfl)) (fun _ _ _ _ _ => pts_nil) (fun _ _ _ _ _ => (pe_c cleast_moment hr (by decide) rfl (pa_cons (pv 0) (pa_cons (pv 11) (pa_cons (pe_op oAdd (pe_dget hu (pv 3) (pv 11) (fun _ _ => rfl)) pe_int) pa_nil)))))) pa_nil)))))))))), ?_⟩
    obtain ⟨n1, n2⟩ := hN
    have m0 : ("" : Str) ∈ ("" : Str) :: d.evs := List.mem_cons_self ..
    obtain ⟨a0, r0, g1, g2, rnd, rin, rg, g3⟩ := hS.row m0
    refine seq_asg ?_
    refine ⟨_, rfl, q, _, rfl, g1, ?_⟩
    obtain ⟨dx, o, r, cc, ts0, k1, _⟩ := id hp.ex
    refine gname (seq_asg ?_)
    refine ⟨_, rfl, p, dx, _, rfl, k1, rfl, p, d, rfl, hp, fun m nm => ?_⟩
    have s1 := same_upd nm (o := .dK (capsV d.caps))
    have km : (upd H m (.dK (capsV d.caps))) m = some (.dK (capsV d.caps)) := upd_same
    have hp1 := hp.same s1
    have hS1 := hS.same s1
    revert km hp1 hS1 s1
    generalize upd H m (.dK (capsV d.caps)) = H1
    intro s1 km hp1 hS1
    obtain ⟨dx, o, r, cc, ts0, k1, _⟩ := id hp1.ex
    refine gname (seq_asg ?_)
    refine ⟨_, rfl, p, dx, _, rfl, k1, rfl, p, d, rfl, hp1, fun t ts nt htl => ⟨t, rfl, ⟨_, .inl (.inl upd_same)⟩, fun D nD => ?_⟩⟩
    have s2 := same_upd nt (o := .lst (ts.map V.ref))
    have kt : (upd H1 t (.lst (ts.map V.ref))) t = some (.lst (ts.map V.ref)) := upd_same
    have htl := htl.same s2
    have hp2 := hp1.same s2
    have hS2 := hS1.same s2
    have s02 := Same.trans s1 s2
    have km2 := s2 _ _ km
    revert kt htl hp2 hS2 s02 km2 nD
    generalize upd H1 t (.lst (ts.map V.ref)) = H2
    intro nD kt htl hp2 hS2 s02 km2
    clear s2 nt k1 hp1 s1 km nm hS1
    refine lc_it (walk_list (K := K) (a := t) (xs := ts.map V.ref)) (fun i H' => Same H2 H' ∧ H' D = some (.lst [])) ⟨same_upd nD, upd_same⟩ (fun i H' _ pv => .inl (.inl (pv.1 _ _ kt))) (fun i x H3' H3 hi pv yv => ?_) (fun H3 pv => ?_)
    · obtain ⟨rfl, hx⟩ := yv
      obtain ⟨s3, hD3⟩ := pv
      obtain ⟨ct, tt, rfl, hmem, hget, hcell⟩ := (htl.same s3).get hx
      obtain ⟨v, hv, hle⟩ := n1 _ hmem
      obtain ⟨b, kvs, d1, d2, d3⟩ := (hS2.same s3).g tt.1 (List.mem_cons_of_mem _ (ok.tin _ hmem).1)
      have d3 := d3 tt.2.1
      rw [hv] at d3
      refine ⟨rfl, _, rfl, _, rfl, ct, _, ((0 : Nat) : Int), .str tt.1, rfl, rfl, .inl (.inl hcell), atI_nat rfl, q, _, rfl, d1, b, rfl, .inl ⟨_, d2⟩, _, rfl, ct, _, ((1 : Nat) : Int), .str tt.2.1, rfl, rfl, .inl (.inl hcell), atI_nat rfl, _, d3, _, rfl, ct, _, ((2 : Nat) : Int), .int tt.2.2, rfl, rfl, .inl (.inl hcell), atI_nat rfl, some v, tt.2.2, rfl, _, rfl, ?_⟩
      refine iteE (decide_eq_false (by omega)) ?_
      exact ⟨s3, hD3⟩
    · obtain ⟨s3, hD3⟩ := pv
      refine gname (seq_asg ?_)
      refine ⟨_, rfl, D, rfl, ⟨_, .inl (.inl hD3)⟩, fun D2 nD2 => ?_⟩
      refine lc_it (walk_list (K := K) (a := D) (xs := [])) (fun i H' => Same H3 H' ∧ H' D2 = some (.lst [])) ⟨same_upd nD2, upd_same⟩ (fun i H' _ pv => .inl (.inl (pv.1 _ _ hD3))) (fun i x H4' H4 hi pv yv => absurd hi (Nat.not_lt_zero _)) (fun H4 pv => ?_)
      obtain ⟨s4, hD4⟩ := pv
      have s34 := Same.trans s3 s4
      have hp4 := hp2.same s34
      have hS4 := hS2.same s34
      have km4 := s34 _ _ km2
      have s04 := Same.trans s02 s34
      clear s34 s4 s3 nD2 hD3 km2 s02 hS2 hp2 htl kt nD
      obtain ⟨dx, o, r, cc, ts0, k1, _⟩ := id hp4.ex
      refine gname (seq_asg ?_)
      refine ⟨_, rfl, p, dx, _, rfl, k1, rfl, p, d, rfl, hp4, fun e ne => ⟨e, rfl, ⟨_, .inl (.inl upd_same)⟩, fun D3 nD3 => ?_⟩⟩
      have s5 := same_upd ne (o := .lst (d.evs.map V.str))
      have ke : (upd H4 e (.lst (d.evs.map V.str))) e = some (.lst (d.evs.map V.str)) := upd_same
      have s05 := Same.trans s04 s5
      have hD5 := s5 _ _ hD4
      have km5 := s5 _ _ km4
      have hS5 := hS4.same s5
      revert nD3 ke s05 hD5 km5 hS5
      generalize upd H4 e (.lst (d.evs.map V.str)) = H5
      intro nD3 ke s05 hD5 km5 hS5
      clear s5 ne k1 hp4 hS4 km4 s04 hD4
      refine lc_it (walk_list (K := K) (a := e) (xs := d.evs.map V.str)) (fun i H' => Same H5 H' ∧ H' D3 = some (.lst [])) ⟨same_upd nD3, upd_same⟩ (fun i H' _ pv => .inl (.inl (pv.1 _ _ ke))) (fun i x H6' H6 hi pv yv => ?_) (fun H6 pv => ?_)
      · obtain ⟨rfl, hx⟩ := yv
        obtain ⟨s6, hD6⟩ := pv
        obtain ⟨g, hg, rfl⟩ := strs_get hx
        have dc : DGet H6 m (.str g) ((capOf d.caps g).map V.int) := .inl ⟨capsV d.caps, .inr g, .inl (s6 _ _ km5), rfl, (valV_capOf ..).symm⟩
        refine ⟨rfl, _, rfl, _, rfl, m, _, rfl, dc, _, rfl, ?_⟩
        rw [isSome_int]
        cases hc : capOf d.caps g with
        | none => exact iteF ⟨s6, hD6⟩
        | some c =>
          refine iteT ?_
          obtain ⟨v, hv, hle⟩ := n2 _ (capOf_mem hc)
          have d3 := dget_same (g3 g) (Same.trans s05 s6)
          rw [hv] at d3
          rw [hc] at dc
          refine ⟨_, rfl, a0, rfl, .inl ⟨_, .inl ((Same.trans s05 s6) _ _ g2)⟩, _, rfl, _, d3, _, rfl, _, rfl, m, _, rfl, dc, some v, c, rfl, _, rfl, ?_⟩
          refine iteE (decide_eq_false (by omega)) ?_
          exact ⟨s6, hD6⟩
      · obtain ⟨s6, hD6⟩ := pv
        refine gname ?_
        refine ⟨_, rfl, D2, [], rfl, .inr (.inl (.inl (s6 _ _ hD5))), ?_⟩
        refine ⟨_, rfl, D3, rfl, ⟨_, .inl (.inl hD6)⟩, fun D4 nD4 => ?_⟩
        refine lc_it (walk_list (K := K) (a := D3) (xs := [])) (fun i H' => Same H6 H' ∧ H' D4 = some (.lst [])) ⟨same_upd nD4, upd_same⟩ (fun i H' _ pv => .inl (.inl (pv.1 _ _ hD6))) (fun i x H4' H4 hi pv yv => absurd hi (Nat.not_lt_zero _)) (fun H7 pv => ?_)
        obtain ⟨s7, hD7⟩ := pv
        refine ⟨D4, [], rfl, .inr (.inl (.inl hD7)), Nat.zero_le _, fun l nl => ?_⟩
        exact qq _ _ (Same.trans s05 (Same.trans s6 (Same.trans s7 (same_upd nl)))) upd_same

end
end Pk

set_option Elab.async false
set_option linter.all false
set_option maxRecDepth 100000
set_option maxHeartbeats 4000000
namespace Pk
open PySem PySem.Spec PyProof.Rows L2 Pu
abbrev s_beyond : Stmt := topS 51
theorem sc_beyond : FnScope ["sums", "plan"] ["sums", "plan"] (defScope s_beyond) := ⟨rfl, rfl, rfl, by decide +kernel, rfl, by decide +kernel, by decide +kernel⟩
abbrev s_within : Stmt := topS 52
theorem sc_within : FnScope ["one", "other"] ["one", "other"] (defScope s_within) := ⟨rfl, rfl, rfl, by decide +kernel, rfl, by decide +kernel, by decide +kernel⟩

section
variable {P : Program} {w : World} {K : PySem.W.Frag} {mg : Str → Option Value} {base : Heap}
/-! ### each moment of one is one of the other; the plan that spans two -/
def spBeyond (K : PySem.W.Frag) (C : Addr) : Sp := fun vs H Q _ => ∃ (q p : Addr) (d : PlanD) (S : Str → Str → Option Int), vs = [.ref q, .ref p] ∧ SmAt H q (("" : Str) :: d.evs) S ∧ PlanAt K C H p d ∧ PlanOk d ∧ NoBreach S d ∧ ∀ H', Same H H' → Q .non H'
theorem ok_beyond {C ft f : Addr} {fd : FuncData} (F : Fun K "beyond" "beyond" s_beyond f fd) (T : Txt mg) (m_total : mg "total" = some (.ref ft)) (cbreaches : Cal P w K mg base 2 "breaches" (spBreach K C) []) : FnOk P w K mg base CX0 3 f fd ["sums", "plan"] (spBeyond K C) := by
  have nd := sc_beyond.nd
  refine F.ok sc_beyond (fun vs H Q E h => ?_) (fun cdv A outer s H vs Q E hr h => ?_)
  · obtain ⟨_, _, _, _, rfl, _⟩ := h
    rfl
  · obtain ⟨q, p, d, S, rfl, hS, hp, ok, hN, qq⟩ := h
    refine ⟨_, (pss_one (ps_ret (pe_callBK (cr_minDef0 K rfl rfl) (by rfl) T.m_min PyProof.Rows.boot_min (pa_cons (pe_c cbreaches hr (by decide) rfl (pa_cons (pv 0) (pa_cons (pv 1) pa_nil))) pa_nil) (pk_cons (pe_glob (v := .ref ft) (by rfl) m_total rfl) (pk_cons pe_non pk_nil))))), ?_⟩
    refine ⟨_, rfl, _, rfl, q, p, d, S, rfl, hS, hp, ok, hN, fun l H1 s1 hl => ?_⟩
    exact ⟨l, ft, .non, rfl, rfl, .inl (.inl hl), qq _ s1⟩
def spWithin (K : PySem.W.Frag) (C : Addr) : Sp := fun vs H Q _ => ∃ (p q : Addr) (d d2 : PlanD), vs = [.ref p, .ref q] ∧ PlanAt K C H p d ∧ PlanAt K C H q d2 ∧ PlanOk d ∧ PlanOk d2 ∧ d2.evs = d.evs ∧ NoBreach (farS d) d2 ∧ ∀ H', Same H H' → Q .non H'
theorem ok_within {C f : Addr} {fd : FuncData} (F : Fun K "within" "within" s_within f fd) (T : Txt mg) (cneed_alike_events : Cal P w K mg base 3 "need_alike_events" (spAlikeEv K C) []) (cclosed_sums : Cal P w K mg base 3 "closed_sums" (spClosedSm K C) []) (cbeyond : Cal P w K mg base 3 "beyond" (spBeyond K C) []) : FnOk P w K mg base CX0 4 f fd ["one", "other"] (spWithin K C) := by
  have nd := sc_within.nd
  refine F.ok sc_within (fun vs H Q E h => ?_) (fun cdv A outer s H vs Q E hr h => ?_)
  · obtain ⟨_, _, _, _, rfl, _⟩ := h
    rfl
  · obtain ⟨p, q, d, d2, rfl, hp, hq, ok, ok2, he, hN, qq⟩ := h
    refine ⟨_, (pss_cons (ps_expr (pe_c cneed_alike_events hr (by decide) rfl (pa_cons (pv 0) (pa_cons (pv 1) pa_nil))))
      (pss_one (ps_ret (pe_c cbeyond hr (by decide) rfl (pa_cons (pe_c cclosed_sums hr (by decide) rfl (pa_cons (pv 0) pa_nil)) (pa_cons (pv 1) pa_nil)))))), ?_⟩
    refine ⟨_, rfl, _, rfl, p, q, d, d2, rfl, hp, hq, he, fun H1 s1 => ?_⟩
    dsimp only
    exact ⟨_, rfl, p, d, rfl, hp.same s1, ok, fun s H2 s2 hS => ⟨_, rfl, s, q, d2, farS d, rfl, (by rw [he]; exact hS), hq.same (Same.trans s1 s2), ok2, hN, fun H3 s3 => qq _ (Same.trans s1 (Same.trans s2 s3))⟩⟩
def mxS (A B : Str → Str → Option Int) : Str → Str → Option Int := fun f l => match A f l, B f l with
  | some a, some b => some (if a < b then b else a)
  | _, _ => none
theorem mxS_some {A B : Str → Str → Option Int} {f l : Str} {v : Int} : mxS A B f l = some v ↔ ∃ a b, A f l = some a ∧ B f l = some b ∧ v = if a < b then b else a := by
  unfold mxS
  cases h1 : A f l with
  | none => exact ⟨fun h => (nomatch h), fun ⟨_, _, h, _⟩ => (nomatch h)⟩
  | some a =>
    cases h2 : B f l with
    | none => exact ⟨fun h => (nomatch h), fun ⟨_, _, _, h, _⟩ => (nomatch h)⟩
    | some b => exact ⟨fun h => ⟨a, b, rfl, rfl, (Option.some.inj h).symm⟩, fun ⟨x, y, h1, h2, h3⟩ => by cases h1; cases h2; rw [h3]⟩
theorem clP_mx {evs : List Str} {A B : Str → Str → Option Int} (hA : ClP "" evs A) (hB : ClP "" evs B) : ClP "" evs (mxS A B) := by
  have zero : ∀ {f l}, f ∈ ("" : Str) :: evs → mxS A B f l = some 0 → A f l = some 0 ∧ B f l = some 0 := fun {f l} hf h => by
    obtain ⟨a, b, h1, h2, h3⟩ := mxS_some.mp h
    have ha := (hA.dom f hf l a h1).2
    have hb := (hB.dom f hf l b h2).2
    split at h3
    · have e1 : a = 0 := by omega
      have e2 : b = 0 := by omega
      rw [h1, h2, e1, e2]
      exact ⟨rfl, rfl⟩
    · have e1 : a = 0 := by omega
      have e2 : b = 0 := by omega
      rw [h1, h2, e1, e2]
      exact ⟨rfl, rfl⟩
  have both : ∀ {f l}, A f l = some 0 → B f l = some 0 → mxS A B f l = some 0 := fun {f l} h1 h2 => mxS_some.mpr ⟨0, 0, h1, h2, rfl⟩
  refine ⟨hA.no, hA.nd, fun f hf l v hv => ?_, fun f hf => both (hA.self f hf) (hB.self f hf), fun f hf k hk l a b h1 h2 => ?_, fun e he => both (hA.back e he) (hB.back e he), fun e he l hl hne h1 h2 => ?_⟩
  · obtain ⟨a, b, h1, h2, h3⟩ := mxS_some.mp hv
    obtain ⟨h4, h5⟩ := hA.dom f hf l a h1
    obtain ⟨_, h6⟩ := hB.dom f hf l b h2
    refine ⟨h4, ?_⟩
    split at h3 <;> omega
  · obtain ⟨a1, b1, p1, p2, p3⟩ := mxS_some.mp h1
    obtain ⟨a2, b2, p4, p5, p6⟩ := mxS_some.mp h2
    obtain ⟨u, q1, q2⟩ := hA.tri f hf k hk l a1 a2 p1 p4
    obtain ⟨v, q3, q4⟩ := hB.tri f hf k hk l b1 b2 p2 p5
    refine ⟨_, mxS_some.mpr ⟨u, v, q1, q3, rfl⟩, ?_⟩
    split at p3 <;> split at p6 <;> split <;> omega
  · obtain ⟨p1, p2⟩ := zero (List.mem_cons_of_mem _ he) h1
    obtain ⟨p3, p4⟩ := zero (List.mem_cons_of_mem _ hl) h2
    exact both (hA.noz e he l hl hne p1 p3) (hB.noz e he l hl hne p2 p4)
/-- what it tells breaks none of what both tell -/
theorem noBreach_span {evs : List Str} {A B S : Str → Str → Option Int} (nd : evs.Nodup) (hS : ∀ f ∈ ("" : Str) :: evs, ∀ l v, mxS A B f l = some v → ∃ u, S f l = some u ∧ u ≤ v) : NoBreach S (planOf evs (mxS A B)) := by
  refine ⟨fun t ht => ?_, fun c hc => ?_⟩
  · obtain ⟨a, b, c⟩ := t
    obtain ⟨⟨h1, h2, _, h4⟩, _⟩ := mem_ties.mp (mem_pick_ties ht)
    exact hS a (List.mem_cons_of_mem _ h1) b c h4
  · obtain ⟨a, b⟩ := c
    obtain ⟨h1, h2⟩ := mem_capsO.mp hc
    exact hS "" (List.mem_cons_self ..) a b h2

end
end Pk

set_option Elab.async false
set_option linter.all false
set_option maxRecDepth 100000
/-! what logs show: counts of runs, and the greatest lead behind each event of any log -/
namespace Pu
open PySem PySem.Spec PyProof.Rows L2
def cntL : List Str → Str → Int
  | [], _ => 0
  | x :: r, e => (if x = e then 1 else 0) + cntL r e
theorem cntL_app (a b : List Str) (e : Str) : cntL (a ++ b) e = cntL a e + cntL b e := by
  induction a with
  | nil => show cntL b e = 0 + cntL b e; omega
  | cons x r ih =>
    show (if x = e then 1 else 0) + cntL (r ++ b) e = ((if x = e then 1 else 0) + cntL r e) + cntL b e
    rw [ih]; omega
theorem cntL_snoc (p : List Str) (x e : Str) : cntL (p ++ [x]) e = cntL p e + if x = e then 1 else 0 := by
  rw [cntL_app]
  show _ + ((if x = e then 1 else 0) + 0) = _
  omega
theorem cntL_nn (p : List Str) (e : Str) : 0 ≤ cntL p e := by
  induction p with
  | nil => exact Int.le_refl _
  | cons x r ih =>
    show 0 ≤ (if x = e then 1 else 0) + cntL r e
    split <;> omega
theorem cntL_no {p : List Str} {e : Str} (h : e ∉ p) : cntL p e = 0 := by
  induction p with
  | nil => rfl
  | cons x r ih =>
    rw [List.mem_cons, not_or] at h
    show (if x = e then 1 else 0) + cntL r e = 0
    rw [if_neg (fun z => h.1 z.symm), ih h.2]
    rfl
/-- the greatest leads over the runs M -/
structure Learnt (M : List Str → Prop) (G : Str → Str → Int) : Prop where
  nn : ∀ f l, 0 ≤ G f l
  up : ∀ p, M p → ∀ f l, cntL p l - cntL p f ≤ G f l
  at' : ∀ f l, G f l = 0 ∨ ∃ p, M p ∧ G f l = cntL p l - cntL p f
theorem Learnt.le {M M' : List Str → Prop} {G G' : Str → Str → Int} (h : Learnt M G) (h' : Learnt M' G') (s : ∀ p, M p → M' p) (f l : Str) : G f l ≤ G' f l := by
  rcases h.at' f l with e | ⟨p, hp, e⟩
  · rw [e]; exact h'.nn f l
  · rw [e]; exact h'.up p (s p hp) f l
theorem Learnt.uniq {M M' : List Str → Prop} {G G' : Str → Str → Int} (h : Learnt M G) (h' : Learnt M' G') (s : ∀ p, M p ↔ M' p) : G = G' :=
  funext fun f => funext fun l => Int.le_antisymm (h.le h' (fun p => (s p).mp) f l) (h'.le h (fun p => (s p).mpr) f l)
theorem Learnt.congr {M M' : List Str → Prop} {G : Str → Str → Int} (h : Learnt M G) (s : ∀ p, M p ↔ M' p) : Learnt M' G :=
  ⟨h.nn, fun p hp => h.up p ((s p).mpr hp), fun f l => (h.at' f l).imp id fun ⟨p, hp, e⟩ => ⟨p, (s p).mp hp, e⟩⟩
theorem learnt0 : Learnt (fun _ => False) fun _ _ => 0 := ⟨fun _ _ => Int.le_refl _, fun _ h => h.elim, fun _ _ => .inl rfl⟩
def maxG (G : Str → Str → Int) (p : List Str) (f l : Str) : Int := max (G f l) (cntL p l - cntL p f)
theorem Learnt.mx {M : List Str → Prop} {G : Str → Str → Int} (h : Learnt M G) (p : List Str) : Learnt (fun q => M q ∨ q = p) (maxG G p) := by
  refine ⟨fun f l => ?_, fun q hq f l => ?_, fun f l => ?_⟩
  · have := h.nn f l
    unfold maxG; omega
  · unfold maxG
    rcases hq with hq | rfl
    · have := h.up q hq f l
      omega
    · omega
  · unfold maxG
    rcases Int.le_total (cntL p l - cntL p f) (G f l) with z | z
    · rw [Int.max_eq_left z]
      exact (h.at' f l).imp id fun ⟨q, hq, e⟩ => ⟨q, .inl hq, e⟩
    · rw [Int.max_eq_right z]
      exact .inr ⟨p, .inr rfl, rfl⟩
theorem Learnt.nil {M : List Str → Prop} {G : Str → Str → Int} (h : Learnt M G) : Learnt (fun q => M q ∨ q = []) G := by
  have h2 := h.mx []
  have : maxG G [] = G := funext fun f => funext fun l => by
    have := h.nn f l
    unfold maxG
    show max (G f l) (0 - 0) = G f l
    omega
  rw [this] at h2
  exact h2
/-- one event more: only what leads to it can grow -/
theorem Learnt.one {M : List Str → Prop} {G : Str → Str → Int} (h : Learnt M G) {p : List Str} (hp : M p) {x : Str} (f l : Str) : maxG G (p ++ [x]) f l = if l = x then max (G f l) (cntL (p ++ [x]) l - cntL (p ++ [x]) f) else G f l := by
  unfold maxG
  by_cases e : l = x
  · rw [if_pos e]
  · rw [if_neg e, cntL_snoc, cntL_snoc, if_neg (fun z : x = l => e z.symm)]
    have := h.up p hp f l
    split <;> omega
/-- the beginnings of logs -/
def PreL (logs : List (List Str)) (p : List Str) : Prop := ∃ log ∈ logs, p <+: log
theorem pre_snoc {p : List Str} {x : Str} {q : List Str} : q <+: p ++ [x] ↔ q <+: p ∨ q = p ++ [x] := by
  constructor
  · rintro ⟨r, e⟩
    rcases List.eq_nil_or_concat r with rfl | ⟨r', y, rfl⟩
    · rw [List.append_nil] at e
      exact .inr e
    · rw [List.concat_eq_append, ← List.append_assoc] at e
      exact .inl ⟨r', (List.append_inj' e rfl).1⟩
  · rintro (⟨r, rfl⟩ | rfl)
    · exact ⟨r ++ [x], (List.append_assoc ..).symm⟩
    · exact List.prefix_refl _
theorem preL_app {a b : List (List Str)} {p : List Str} : PreL (a ++ b) p ↔ PreL a p ∨ PreL b p := by
  unfold PreL
  constructor
  · rintro ⟨l, hl, h⟩
    exact (List.mem_append.mp hl).imp (fun q => ⟨l, q, h⟩) fun q => ⟨l, q, h⟩
  · rintro (⟨l, hl, h⟩ | ⟨l, hl, h⟩)
    · exact ⟨l, List.mem_append_left _ hl, h⟩
    · exact ⟨l, List.mem_append_right _ hl, h⟩
theorem preL_one {l p : List Str} : PreL [l] p ↔ p <+: l := by
  unfold PreL
  constructor
  · rintro ⟨x, hx, h⟩
    rw [List.mem_singleton] at hx
    exact hx ▸ h
  · exact fun h => ⟨l, List.mem_singleton_self _, h⟩
theorem preL_perm {a b : List (List Str)} (h : a.Perm b) (p : List Str) : PreL a p ↔ PreL b p := by
  unfold PreL
  exact ⟨fun ⟨l, hl, q⟩ => ⟨l, h.mem_iff.mp hl, q⟩, fun ⟨l, hl, q⟩ => ⟨l, h.mem_iff.mpr hl, q⟩⟩
/-- a beginning of one of them adds nothing -/
theorem preL_pre {a : List (List Str)} {l r : List Str} (hl : l ∈ a) (hr : r <+: l) (p : List Str) : PreL (a ++ [r]) p ↔ PreL a p := by
  rw [preL_app, preL_one]
  exact ⟨fun h => h.elim id fun h => ⟨l, hl, h.trans hr⟩, .inl⟩
theorem PreL.sub {a : List (List Str)} {evs : List Str} (h : ∀ l ∈ a, ∀ e ∈ l, e ∈ evs) {p : List Str} (hp : PreL a p) : ∀ e ∈ p, e ∈ evs := by
  obtain ⟨l, hl, r, rfl⟩ := hp
  exact fun e he => h _ hl e (List.mem_append_left _ he)
def SofG (o : Str) (evs : List Str) (G : Str → Str → Int) : Str → Str → Option Int := fun f l => if l ∈ o :: evs then some (G f l) else none
theorem sofG_in {o : Str} {evs : List Str} {G : Str → Str → Int} {f l : Str} (h : l ∈ o :: evs) : SofG o evs G f l = some (G f l) := if_pos h
theorem clP_learnt {o : Str} {evs : List Str} {logs : List (List Str)} {G : Str → Str → Int} (no : o ∉ evs) (nd : evs.Nodup) (hs : ∀ l ∈ logs, ∀ e ∈ l, e ∈ evs) (h : Learnt (PreL logs) G) : ClP o evs (SofG o evs G) := by
  have h0 : ∀ {p}, PreL logs p → cntL p o = 0 := fun hp => cntL_no fun z => no (hp.sub hs _ z)
  refine ⟨no, nd, fun f hf l v hv => ?_, fun f hf => ?_, fun f hf k hk l a b h1 h2 => ?_, fun e he => ?_, fun e he l hl hne h1 h2 => ?_⟩
  · unfold SofG at hv
    split at hv
    · rename_i hl
      cases hv
      exact ⟨hl, h.nn f l⟩
    · cases hv
  · rw [sofG_in hf]
    rcases h.at' f f with e | ⟨p, _, e⟩
    · rw [e]
    · rw [e, Int.sub_self]
  · unfold SofG at h2
    split at h2
    · rename_i hl
      rw [sofG_in hk] at h1
      cases h1
      cases h2
      rw [sofG_in hl]
      refine ⟨_, rfl, ?_⟩
      rcases h.at' f l with e | ⟨p, hp, e⟩
      · have := h.nn f k
        have := h.nn k l
        omega
      · have := h.up p hp f k
        have := h.up p hp k l
        omega
    · cases h2
  · rw [sofG_in (List.mem_cons_self ..)]
    rcases h.at' e o with q | ⟨p, hp, q⟩
    · rw [q]
    · have h1 := h0 hp
      have h2 := cntL_nn p e
      have h3 := h.nn e o
      have : G e o = 0 := by omega
      rw [this]
  · rw [sofG_in (List.mem_cons_of_mem _ hl)] at h1
    rw [sofG_in (List.mem_cons_of_mem _ he)] at h2 ⊢
    have h1 := Option.some.inj h1
    have h2 := Option.some.inj h2
    have hz : ∀ p, PreL logs p → e ∉ p := fun p hp z => by
      obtain ⟨a, b, rfl⟩ := List.append_of_mem z
      obtain ⟨L, hL, r, er⟩ := hp
      have p1 : PreL logs a := ⟨L, hL, e :: b ++ r, by rw [← er, List.append_assoc]⟩
      have p2 : PreL logs (a ++ [e]) := ⟨L, hL, b ++ r, by rw [← er, List.append_assoc, List.append_assoc]; rfl⟩
      have q1 := h.up _ p1 e l
      have q2 := h.up _ p1 l e
      have q3 := h.up _ p2 l e
      rw [cntL_snoc, cntL_snoc, if_pos rfl, if_neg hne] at q3
      omega
    rcases h.at' o e with q | ⟨p, hp, q⟩
    · rw [q]
    · rw [q, h0 hp, cntL_no (hz p hp)]
      rfl
end Pu

set_option Elab.async false
set_option linter.all false
set_option maxRecDepth 100000
set_option maxHeartbeats 4000000
namespace Pk
open PySem PySem.Spec PyProof.Rows L2 Pu
abbrev s_need_logs : Stmt := topS 63
theorem sc_need_logs : FnScope ["events", "logs", "log", "event"] ["events", "logs"] (defScope s_need_logs) := ⟨rfl, rfl, rfl, by decide +kernel, rfl, by decide +kernel, by decide +kernel⟩

section
variable {P : Program} {w : World} {K : PySem.W.Frag} {mg : Str → Option Value} {base : Heap}
/-! ### logs that are right -/
structure LogsOk (K : PySem.W.Frag) (H : Hp) (evs : List Str) (gs : List Addr) (lg : Addr → List Str) : Prop where
  n : gs.length ≤ 80
  at' : ∀ g ∈ gs, Sq K H g ((lg g).map V.str)
  len : ∀ g ∈ gs, (lg g).length ≤ 200
  sub : ∀ g ∈ gs, ∀ e ∈ lg g, e ∈ evs
theorem LogsOk.same {H H' : Hp} {evs : List Str} {gs : List Addr} {lg : Addr → List Str} (h : LogsOk K H evs gs lg) (s : Same H H') : LogsOk K H' evs gs lg :=
  ⟨h.n, fun g hg => sq_same (h.at' g hg) s, h.len, h.sub⟩
theorem refs_get {gs : List Addr} {i : Nat} {x : V} (h : (gs.map V.ref)[i]? = some x) : ∃ g, gs[i]? = some g ∧ x = .ref g := by
  rw [List.getElem?_map] at h
  cases e : gs[i]? with
  | none => rw [e] at h; cases h
  | some g => rw [e] at h; cases h; exact ⟨g, rfl, rfl⟩
def spNeedLogs (K : PySem.W.Frag) : Sp := fun vs H Q _ => ∃ (a b : Addr) (evs : List Str) (gs : List Addr) (lg : Addr → List Str), vs = [.ref a, .ref b] ∧ Sq K H a (evs.map V.str) ∧ Sq K H b (gs.map V.ref) ∧ LogsOk K H evs gs lg ∧ ∀ H', Same H H' → Q .non H'
theorem ok_need_logs {f : Addr} {fd : FuncData} (F : Fun K "need_logs" "need_logs" s_need_logs f fd) (T : Txt mg) (cneed_event : Cal P w K mg base 1 "need_event" (spEvent K) []) : FnOk P w K mg base CX0 2 f fd ["events", "logs"] (spNeedLogs K) := by
  have nd := sc_need_logs.nd
  refine F.ok sc_need_logs (fun vs H Q E h => ?_) (fun cdv A outer s H vs Q E hr h => ?_)
  · obtain ⟨_, _, _, _, _, rfl, _⟩ := h
    rfl
  · obtain ⟨a, b, evs, gs, lg, rfl, ha, hb, ok, q⟩ := h
    refine ⟨_, (pss_cons (ps_if (PW.pt (pw_or (pt_not (pt_val (pe_callB (isiTK K) (by rfl) T.m_isinstance PyProof.Rows.boot_isinstance (pa_cons (pv 1) (pa_cons (pe_tup (pa_cons (pe_bltn (v := .ty "list") rfl T.m_list PyProof.Rows.boot_list rfl) (pa_cons (pe_bltn (v := .ty "tuple") rfl T.m_tuple PyProof.Rows.boot_tuple rfl) pa_nil))) pa_nil))))) (pw_or1 (pt_cmpR op_gt (pe_callB (lenK K) (by rfl) T.m_len PySem.boot_len (pa_cons (pv 1) pa_nil)) (pe_gi rfl T.m_MOST_LOGS) (by rfl)))))
      (pss_one ps_no) pss_nil)
      (pss_one (ps_for PassesOwn.never rfl (pi_seq K (pv 1)) (pg_name (i := 2) nd rfl (Or.inl rfl))
      (pss_cons (ps_if (PW.pt (pw_or (pt_not (pt_val (pe_callB (isiTK K) (by rfl) T.m_isinstance PyProof.Rows.boot_isinstance (pa_cons (pv 2) (pa_cons (pe_tup (pa_cons (pe_bltn (v := .ty "list") rfl T.m_list PyProof.Rows.boot_list rfl) (pa_cons (pe_bltn (v := .ty "tuple") rfl T.m_tuple PyProof.Rows.boot_tuple rfl) pa_nil))) pa_nil))))) (pw_or1 (pt_cmpR op_gt (pe_callB (lenK K) (by rfl) T.m_len PySem.boot_len (pa_cons (pv 2) pa_nil)) (pe_gi rfl T.m_LONGEST_LOG) (by rfl)))))
      (pss_one ps_no) pss_nil)
      (pss_one (ps_for PassesOwn.never rfl (pi_seq K (pv 2)) (pg_name (i := 3) nd rfl (Or.inl rfl))
      (pss_one (ps_expr (pe_c cneed_event hr (by decide) rfl (pa_cons (pv 0) (pa_cons (pv 3) pa_nil))))))))))), ?_⟩
    refine ⟨_, rfl, sz 2, fun T0 n0 => ?_⟩
    have s0 : Same H (upd H T0 (.tup [.ty "list", .ty "tuple"])) := same_upd n0
    have hT : (upd H T0 (.tup [.ty "list", .ty "tuple"])) T0 = some (.tup [.ty "list", .ty "tuple"]) := upd_same
    revert s0 hT
    generalize upd H T0 (.tup [.ty "list", .ty "tuple"]) = H0
    intro s0 hT
    obtain ⟨t, hty, hk⟩ := ty_sq (sq_same hb s0)
    refine ⟨_, T0, _, _, _, true, rfl, hT, .cons (.ty _) (.cons (.ty _) .nil), hty, hk, _, rfl, _, rfl, .inl ⟨b, _, rfl, sq_same hb s0, _, _, rfl, rfl, _, rfl, ite2 (fun e1 => ?_) (fun e1 => ?_)⟩⟩
    · have e2 := of_decide_eq_true e1
      have := ok.n
      rw [List.length_map] at e2
      omega
    · refine for_seq (fun i σ H' => Same H0 H' ∧ ∃ v2 v3, σ = [some (.ref a), some (.ref b), v2, v3]) (fun Q hQ => ⟨_, rfl, hQ⟩) (sq_same hb s0) ⟨Same.refl _, _, _, rfl⟩ (fun _ _ _ _ p => p.1) (fun i x σ H1 hx p => ?_) (fun σ H1 p => q _ (Same.trans s0 p.1))
      obtain ⟨s1, v2, v3, rfl⟩ := p
      obtain ⟨g, hg, rfl⟩ := refs_get hx
      have hgm := List.mem_of_getElem? hg
      have s2 := Same.trans s0 s1
      refine ⟨_, rfl, sz 2, fun T1 n1 => ?_⟩
      have sT := same_upd n1 (o := .tup [.ty "list", .ty "tuple"])
      have hT1 : (upd H1 T1 (.tup [.ty "list", .ty "tuple"])) T1 = some (.tup [.ty "list", .ty "tuple"]) := upd_same
      revert sT hT1
      generalize upd H1 T1 (.tup [.ty "list", .ty "tuple"]) = H2
      intro sT hT1
      have s3 := Same.trans s2 sT
      have hgq := sq_same (ok.at' g hgm) s3
      obtain ⟨t, hty, hk⟩ := ty_sq hgq
      refine ⟨_, T1, _, _, _, true, rfl, hT1, .cons (.ty _) (.cons (.ty _) .nil), hty, hk, _, rfl, _, rfl, .inl ⟨g, _, rfl, hgq, _, _, rfl, rfl, _, rfl, ite2 (fun e1 => ?_) (fun e1 => ?_)⟩⟩
      · have e2 := of_decide_eq_true e1
        have := ok.len g hgm
        rw [List.length_map] at e2
        omega
      · refine for_seq (fun i σ H' => Same H2 H' ∧ ∃ v3, σ = [some (.ref a), some (.ref b), some (.ref g), v3]) (fun Q hQ => ⟨_, rfl, hQ⟩) hgq ⟨Same.refl _, _, rfl⟩ (fun _ _ _ _ p => p.1) (fun i x σ H3 hx p => ?_) (fun σ H3 p => ?_)
        · obtain ⟨s4, v3, rfl⟩ := p
          obtain ⟨e, he, rfl⟩ := strs_get hx
          exact ⟨_, rfl, _, rfl, a, evs, e, rfl, sq_same ha (Same.trans s3 s4), ok.sub g hgm e (List.mem_of_getElem? he), s4, _, rfl⟩
        · obtain ⟨s4, v3, rfl⟩ := p
          exact ⟨Same.trans s1 (Same.trans sT s4), _, _, rfl⟩

end
end Pk

set_option Elab.async false
set_option linter.all false
set_option maxRecDepth 100000
set_option maxHeartbeats 4000000
namespace Pk
open PySem PySem.Spec PyProof.Rows L2 Pu
abbrev s_widen : Stmt := topS 64
theorem sc_widen : FnScope ["known", "log", "places", "place", "counts", "event", "lead"] ["known", "log"] (defScope s_widen) := ⟨rfl, rfl, rfl, by decide +kernel, rfl, by decide +kernel, by decide +kernel⟩
abbrev s_leads_of : Stmt := topS 65
theorem sc_leads_of : FnScope ["events", "logs", "places", "known", "log", "first", "last"] ["events", "logs"] (defScope s_leads_of) := ⟨rfl, rfl, rfl, by decide +kernel, rfl, by decide +kernel, by decide +kernel⟩
abbrev s_learnt : Stmt := topS 66
theorem sc_learnt : FnScope ["events", "logs"] ["events", "logs"] (defScope s_learnt) := ⟨rfl, rfl, rfl, by decide +kernel, rfl, by decide +kernel, by decide +kernel⟩

section
variable {P : Program} {w : World} {K : PySem.W.Frag} {mg : Str → Option Value} {base : Heap}
/-! ### what logs show -/
def rowG (ls : List Str) (g : Str → Int) : SR := ls.map fun l => (l, g l)
theorem rowG_keys (ls : List Str) (g : Str → Int) : (rowG ls g).map (·.1) = ls := by
  unfold rowG
  rw [List.map_map]
  exact (List.map_congr_left fun _ _ => rfl).trans (List.map_id _)
theorem rowG_get {ls : List Str} {g : Str → Int} {l : Str} (h : l ∈ ls) : getR (rowG ls g) l = some (g l) := by
  induction ls with
  | nil => cases h
  | cons x r ih =>
    show (if x = l then some (g x) else getR (rowG r g) l) = _
    by_cases e : x = l
    · rw [if_pos e, e]
    · rw [if_neg e]
      exact ih ((List.mem_cons.mp h).resolve_left fun z => e z.symm)
theorem rowG_put {ls : List Str} {g : Str → Int} {k : Str} {v : Int} (nd : ls.Nodup) (h : k ∈ ls) : putK (kvR V.int (rowG ls g)) (.inr k) (.int v) = kvR V.int (rowG ls fun l => if l = k then v else g l) := by
  rw [putK_kvR V.int (by rw [rowG_keys]; exact nd)]
  congr 1
  induction ls with
  | nil => cases h
  | cons x r ih =>
    rw [List.nodup_cons] at nd
    show (if x = k then (k, v) :: rowG r g else (x, g x) :: putR (rowG r g) k v) = (x, if x = k then v else g x) :: rowG r _
    by_cases e : x = k
    · rw [if_pos e, if_pos e, e]
      congr 1
      unfold rowG
      exact List.map_congr_left fun y hy => by
        have : ¬ y = k := fun z => nd.1 (by rw [e, ← z]; exact hy)
        simp only [if_neg this]
    · rw [if_neg e, if_neg e, ih nd.2 ((List.mem_cons.mp h).resolve_left fun z => e z.symm)]
theorem rowG_congr {ls : List Str} {g h : Str → Int} (e : ∀ l ∈ ls, g l = h l) : rowG ls g = rowG ls h := by
  unfold rowG
  exact List.map_congr_left fun y hy => by rw [e y hy]
/-- a dict of rows of numbers, the dict itself being o -/
structure GAtO (o : HO) (ps ls : List Str) (D : Addr) (sa : Str → Addr) (H : Hp) (G : Str → Str → Int) : Prop where
  d : H D = some o
  r : ∀ f ∈ ps, H (sa f) = some (.dK (kvR V.int (rowG ls (G f))))
abbrev GAt (ps ls : List Str) (D : Addr) (sa : Str → Addr) (H : Hp) (G : Str → Str → Int) : Prop := GAtO (.dK (outV ps sa)) ps ls D sa H G
structure Apt (ps : List Str) (D : Addr) (sa : Str → Addr) : Prop where
  s : ∀ f ∈ ps, ∀ g ∈ ps, sa f = sa g → f = g
  d : ∀ f ∈ ps, sa f ≠ D
/-- all but the rows stays -/
def OffS (ps : List Str) (sa : Str → Addr) (H H' : Hp) : Prop := ∀ a u, (∀ f ∈ ps, a ≠ sa f) → H a = some u → H' a = some u
theorem OffS.refl {ps : List Str} {sa : Str → Addr} {H : Hp} : OffS ps sa H H := fun _ _ _ h => h
theorem OffS.trans {ps : List Str} {sa : Str → Addr} {H H1 H2 : Hp} (e : OffS ps sa H H1) (e2 : OffS ps sa H1 H2) : OffS ps sa H H2 := fun a u h1 h => e2 a u h1 (e a u h1 h)
theorem OffS.same {ps : List Str} {sa : Str → Addr} {H H' : Hp} (s : Same H H') : OffS ps sa H H' := fun a u _ h => s a u h
theorem OffS.from {ps : List Str} {sa : Str → Addr} {H0 H H' : Hp} (e : OffS ps sa H H') (s : Same H0 H) (n : ∀ f ∈ ps, H0 (sa f) = none) : Same H0 H' := fun a u h => e a u (fun f hf z => by rw [z, n f hf] at h; cases h) (s a u h)
theorem GAtO.same {o : HO} {ps ls : List Str} {D : Addr} {sa : Str → Addr} {H H' : Hp} {G : Str → Str → Int} (h : GAtO o ps ls D sa H G) (s : Same H H') : GAtO o ps ls D sa H' G := ⟨s _ _ h.d, fun f hf => s _ _ (h.r f hf)⟩
theorem GAtO.congr {o : HO} {ps ls : List Str} {D : Addr} {sa : Str → Addr} {H : Hp} {G G' : Str → Str → Int} (h : GAtO o ps ls D sa H G) (e : ∀ f ∈ ps, ∀ l ∈ ls, G f l = G' f l) : GAtO o ps ls D sa H G' := ⟨h.d, fun f hf => by rw [h.r f hf, rowG_congr (e f hf)]⟩
theorem GAt.gd {ps ls : List Str} {D : Addr} {sa : Str → Addr} {H : Hp} {G : Str → Str → Int} (h : GAt ps ls D sa H G) {f : Str} (hf : f ∈ ps) : DGet H D (.str f) (some (.ref (sa f))) := .inl ⟨_, .inr f, .inl h.d, rfl, (outV_get hf).symm⟩
theorem dget_row {H : Hp} {b : Addr} {ls : List Str} {g : Str → Int} {l : Str} (h : H b = some (.dK (kvR V.int (rowG ls g)))) (hl : l ∈ ls) : DGet H b (.str l) (some (.int (g l))) :=
  .inl ⟨_, .inr l, .inl h, rfl, by rw [valV_kvR, rowG_get hl]; rfl⟩
theorem GAtO.gr {o : HO} {ps ls : List Str} {D : Addr} {sa : Str → Addr} {H : Hp} {G : Str → Str → Int} (h : GAtO o ps ls D sa H G) {f l : Str} (hf : f ∈ ps) (hl : l ∈ ls) : DGet H (sa f) (.str l) (some (.int (G f l))) := dget_row (h.r f hf) hl
def putG (G : Str → Str → Int) (f l : Str) (v : Int) : Str → Str → Int := fun a b => if a = f then (if b = l then v else G f b) else G a b
theorem GAtO.put {o : HO} {ps ls : List Str} {D : Addr} {sa : Str → Addr} {H : Hp} {G : Str → Str → Int} (h : GAtO o ps ls D sa H G) (A : Apt ps D sa) {f l : Str} (nd : ls.Nodup) (hf : f ∈ ps) (hl : l ∈ ls) (v : Int) :
    GAtO o ps ls D sa (upd H (sa f) (.dK (putK (kvR V.int (rowG ls (G f))) (.inr l) (.int v)))) (putG G f l v) ∧ OffS ps sa H (upd H (sa f) (.dK (putK (kvR V.int (rowG ls (G f))) (.inr l) (.int v)))) := by
  refine ⟨⟨?_, fun g hg => ?_⟩, fun a u h1 ha => ?_⟩
  · rw [upd_ne (A.d f hf).symm]; exact h.d
  · unfold putG
    by_cases e : g = f
    · rw [e, upd_same, rowG_put nd hl]
      simp only [if_pos]
    · rw [upd_ne (fun z => e (A.s g hg f hf z))]
      simp only [if_neg e]
      exact h.r g hg
  · rw [upd_ne (h1 f hf)]
    exact ha
theorem GAtO.root {o : HO} {ps ls : List Str} {D : Addr} {sa : Str → Addr} {H : Hp} {G : Str → Str → Int} (h : GAtO o ps ls D sa H G) (A : Apt ps D sa) (o' : HO) : GAtO o' ps ls D sa (upd H D o') G :=
  ⟨upd_same, fun f hf => by rw [upd_ne (A.d f hf)]; exact h.r f hf⟩
theorem GAtO.gdL {od : Obj} {ps ls : List Str} {D : Addr} {sa : Str → Addr} {H : Hp} {G : Str → Str → Int} (h : GAtO (.frz od (.dK (outV ps sa))) ps ls D sa H G) {f : Str} (hf : f ∈ ps) : DGet H D (.str f) (some (.ref (sa f))) := .inl ⟨_, .inr f, .inr ⟨_, h.d⟩, rfl, (outV_get hf).symm⟩
theorem offs_unlock {ps : List Str} {sa : Str → Addr} {D : Addr} {H H' : Hp} {u v : HO} (hD : H D = some u) (x : OffS ps sa (upd H D v) H') : OffS ps sa H (upd H' D u) := fun a o h1 h => by
  by_cases z : a = D
  · rw [z, upd_same, ← hD, ← z]; exact h
  · rw [upd_ne z]
    exact x a o h1 (by rw [upd_ne z]; exact h)
theorem outV_keys (ps : List Str) (sa : Str → Addr) : ((outV ps sa).map fun kv => kV kv.1) = ps.map V.str := by
  unfold outV
  rw [List.map_map]
  rfl
theorem take_in {ps : List Str} (nd : ps.Nodup) {j : Nat} {f : Str} (h : ps[j]? = some f) (a : Str) : a ∈ ps.take (j + 1) ↔ a ∈ ps.take j ∨ a = f := by
  rw [List.take_add_one, h]
  exact List.mem_append.trans (or_congr Iff.rfl List.mem_singleton)
def spWiden (K : PySem.W.Frag) : Sp := fun vs H Q _ => ∃ (D g : Addr) (ps log : List Str) (sa : Str → Addr) (G : Str → Str → Int) (M : List Str → Prop) (H0 : Hp), vs = [.ref D, .ref g] ∧ GAt ps ps D sa H G ∧ Apt ps D sa ∧ ps.Nodup ∧ ps.length ≤ 9 ∧ Learnt M G ∧ (∀ e ∈ log, e ∈ ps) ∧ log.length ≤ 200 ∧
  Same H0 H ∧ (∀ f ∈ ps, H0 (sa f) = none) ∧ Sq K H0 g (log.map V.str) ∧ ∀ H' G', OffS ps sa H H' → GAt ps ps D sa H' G' → Learnt (fun q => M q ∨ q <+: log) G' → Q .non H'
theorem ok_widen {f : Addr} {fd : FuncData} (F : Fun K "widen" "widen" s_widen f fd) (T : Txt mg) : FnOk P w K mg base CX0 1 f fd ["known", "log"] (spWiden K) := by
  have nd := sc_widen.nd
  refine F.ok sc_widen (fun vs H Q E h => ?_) (fun cdv A outer s H vs Q E hr h => ?_)
  · obtain ⟨_, _, _, _, _, _, _, _, rfl, _⟩ := h
    rfl
  · obtain ⟨D, g, ps, log, sa, G, M, H0, rfl, hG, hA, hnd, hl9, hM, hin, hll, s0, hfr, hq, q⟩ := h
    have hu := hu_of hr
    refine ⟨_, (pss_cons (ps_set (i := 2) nd rfl (Or.inl rfl) (pe_callTy (call_list_dK rfl) (by rfl) T.m_list PyProof.Rows.boot_list (pa_cons (pv 0) pa_nil)))
      (pss_cons (ps_setDc (i := 4) (y := "counts") (own := [("place", 3)]) (g := gName 3) (tt := tYes) rfl nd rfl rfl (sw_dict rfl rfl rfl (by decide +kernel)) (pi_list (pv 2)) (blkOk_by (N := ["known", "log", "places", "place", "counts", "event", "lead"]) (sc := defScope s_widen) (by decide +kernel)) (fun _ _ _ _ _ => pg_name (i := 3) nd rfl (Or.inl rfl)) (fun _ _ _ _ _ => pts_nil) (fun _ _ _ _ _ => (pv 3)) (fun _ _ _ _ _ => pe_int))
      (pss_one (ps_for PassesOwn.never rfl (pi_seq K (pv 1)) (pg_name (i := 5) nd rfl (Or.inl rfl))
      (pss_cons (ps_daug hu (pv 4) (pv 5) pe_int in_add (fun _ _ _ => rfl))
      (pss_one (ps_for PassesOwn.never rfl (pi_list (pv 2)) (pg_name (i := 3) nd rfl (Or.inl rfl))
      (pss_cons (ps_set (i := 6) nd rfl (Or.inl rfl) (pe_op op_sub (pe_dget hu (pv 4) (pv 5) (fun _ _ => rfl)) (pe_dget hu (pv 4) (pv 3) (fun _ _ => rfl))))
      (pss_one (ps_if (pt_cmpR op_gt (pv 6) (pe_dget hu (pe_dget hu (pv 0) (pv 3) (fun _ _ => rfl)) (pv 5) (fun _ _ => rfl)) (by rfl))
      (pss_one (ps_dput hu (pe_dget hu (pv 0) (pv 3) (fun _ _ => rfl)) (pv 5) (pv 6) rfl)) pss_nil)))))))))), ?_⟩
    have hinj := hA
    refine seq_asg ?_
    refine ⟨_, rfl, D, _, rfl, hG.d, fun Lp nLp => ?_⟩
    rw [outV_keys]
    have s1 := same_upd nLp (o := .lst (ps.map V.str))
    have kL : (upd H Lp (.lst (ps.map V.str))) Lp = some (.lst (ps.map V.str)) := upd_same
    have hG1 := hG.same s1
    have s01 := Same.trans s0 s1
    have o1 : OffS ps sa H (upd H Lp (.lst (ps.map V.str))) := OffS.same s1
    have aL : ∀ f ∈ ps, Lp ≠ sa f := fun f hf z => by rw [z, hG.r f hf] at nLp; cases nLp
    revert kL hG1 s01 o1
    generalize upd H Lp (.lst (ps.map V.str)) = H1
    intro kL hG1 s01 o1
    clear s1 nLp hG s0
    refine gname (seq_asg ?_)
    refine ⟨_, rfl, Lp, rfl, ⟨_, .inl (.inl kL)⟩, fun c nc => ?_⟩
    have ac : ∀ f ∈ ps, c ≠ sa f := fun f hf z => by rw [z, hG1.r f hf] at nc; cases nc
    refine dcK_it (walk_list (K := K) (a := Lp) (xs := ps.map V.str)) (fun i H' => Same H1 H' ∧ H' c = some (.dK (kvR V.int (rowG (ps.take i) fun _ => 0)))) ⟨same_upd nc, upd_same⟩ (fun i H' _ pv => .inl (.inl (pv.1 _ _ kL))) (fun i x H2' H2 hi pv yv => ?_) (fun H2 pv => ?_)
    · obtain ⟨rfl, hx⟩ := yv
      obtain ⟨s2, hc2⟩ := pv
      obtain ⟨f, hf, rfl⟩ := strs_get hx
      refine ⟨rfl, _, rfl, _, .inr f, rfl, hc2, ?_, same_put nc s2, ?_⟩
      · rw [kvR_len]
        unfold rowG
        rw [List.length_map, List.length_take]
        exact Nat.lt_of_le_of_lt (Nat.le_trans (Nat.min_le_right _ _) hl9) (Nat.lt_of_lt_of_le (by omega) (sz 10))
      · have hn : f ∉ ps.take i := fun z => by
          obtain ⟨j, hj, e⟩ := List.getElem_of_mem z
          rw [List.getElem_take] at e
          rw [List.length_take] at hj
          obtain ⟨hi, e2⟩ := List.getElem?_eq_some_iff.mp hf
          have := (List.getElem_inj (h₀ := by omega) (h₁ := hi) hnd).mp (e.trans e2.symm)
          omega
        rw [upd_same, putK_new _ (by rw [valV_kvR, getR_none (by rw [rowG_keys]; exact hn)]; rfl)]
        have htk : ps.take (i + 1) = ps.take i ++ [f] := by rw [List.take_add_one, hf]; rfl
        rw [htk]
        unfold rowG kvR
        rw [List.map_append, List.map_append]
        rfl
    rw [List.length_map, List.take_length] at pv
    obtain ⟨s2, hc2⟩ := pv
    refine gname ?_
    refine for_seqA (H0 := H0) (fun i σ H' => ∃ G', OffS ps sa H1 H' ∧ GAt ps ps D sa H' G' ∧ Learnt (fun q => M q ∨ q <+: log.take i) G' ∧ H' c = some (.dK (kvR V.int (rowG ps (cntL (log.take i))))) ∧ ∃ v3 v5 v6, σ = [some (.ref D), some (.ref g), some (.ref Lp), v3, some (.ref c), v5, v6]) (fun Q hQ => ⟨_, rfl, hQ⟩) hq
      ⟨G, OffS.same s2, hG1.same s2, hM.nil.congr fun q => by rw [List.take_zero, List.prefix_nil], by rw [List.take_zero]; exact hc2, _, _, _, rfl⟩ (fun i σ H' _ pv o h => by obtain ⟨_, o, _⟩ := pv; exact OffS.from o s01 hfr _ _ h) (fun i x σ H' hx pv => ?_) (fun σ H' pv => ?_)
    · obtain ⟨G', o3, hG3, hM3, hc3, v3, v5, v6, rfl⟩ := pv
      obtain ⟨e, he, rfl⟩ := strs_get hx
      have hep : e ∈ ps := hin e (List.mem_of_getElem? he)
      have htk : log.take (i + 1) = log.take i ++ [e] := by rw [List.take_add_one, he]; rfl
      have hlen : ∀ g : Str → Int, (kvR V.int (rowG ps g)).length < sizeLine := fun g => by
        rw [kvR_len]
        unfold rowG
        rw [List.length_map]
        exact Nat.lt_of_le_of_lt hl9 (Nat.lt_of_lt_of_le (by omega) (sz 10))
      refine gname (seq_st ?_)
      refine ⟨_, rfl, _, rfl, c, _, rfl, dget_row hc3 hep, _, _, rfl, rfl, _, .inl ⟨_, .inr e, hc3, rfl, hlen _, rfl⟩, ?_⟩
      have hc4 : (upd H' c (.dK (putK (kvR V.int (rowG ps (cntL (log.take i)))) (.inr e) (.int (cntL (log.take i) e + 1))))) c = some (.dK (kvR V.int (rowG ps (cntL (log.take i ++ [e]))))) := by
        rw [upd_same, rowG_put hnd hep]
        refine congrArg (fun r => some (HO.dK (kvR V.int r))) (rowG_congr fun l hl => ?_)
        rw [cntL_snoc]
        by_cases z : l = e
        · rw [if_pos z, if_pos z.symm, z]
        · rw [if_neg z, if_neg (fun y => z y.symm), Int.add_zero]
      have hG4 : GAt ps ps D sa (upd H' c (.dK (putK (kvR V.int (rowG ps (cntL (log.take i)))) (.inr e) (.int (cntL (log.take i) e + 1))))) G' := ⟨by rw [upd_ne (fun z => by rw [← z, hG1.d] at nc; cases nc)]; exact hG3.d, fun f hf => by rw [upd_ne (ac f hf).symm]; exact hG3.r f hf⟩
      have o4 : OffS ps sa H1 (upd H' c (.dK (putK (kvR V.int (rowG ps (cntL (log.take i)))) (.inr e) (.int (cntL (log.take i) e + 1))))) := fun a u h1 h => by
        rw [upd_ne (fun z => by rw [z, nc] at h; cases h)]
        exact o3 a u h1 h
      revert hc4 hG4 o4
      generalize upd H' c (.dK (putK (kvR V.int (rowG ps (cntL (log.take i)))) (.inr e) (.int (cntL (log.take i) e + 1)))) = H4
      intro hc4 hG4 o4
      clear hG3 o3 hc3
      have hone := fun f l => hM3.one (p := log.take i) (.inr (List.prefix_refl _)) (x := e) f l
      have hMx := (hM3.mx (log.take i ++ [e])).congr (M' := fun q => M q ∨ q <+: log.take i ++ [e]) fun q => by rw [pre_snoc, or_assoc]
      rw [← htk] at hMx
      revert hone hMx hc4
      rw [← htk]
      generalize log.take (i + 1) = r
      intro hc4 hone hMx
      refine ⟨_, rfl, Lp, rfl, ⟨_, .inl (.inl (o4 _ _ aL kL))⟩, ?_⟩
      refine for_it (walk_list (K := K) (a := Lp) (xs := ps.map V.str)) (fun j σ H' => OffS ps sa H4 H' ∧ GAt ps ps D sa H' (fun f l => if f ∈ ps.take j then maxG G' r f l else G' f l) ∧ ∃ v3 v6, σ = [some (.ref D), some (.ref g), some (.ref Lp), v3, some (.ref c), some (.str e), v6]) ⟨OffS.refl, hG4.congr fun f _ l _ => by rw [List.take_zero, if_neg List.not_mem_nil], _, _, rfl⟩
        (fun j σ H' _ pv => .inl (.inl (pv.1 _ _ aL (o4 _ _ aL kL)))) (fun j x σ H6' H6 hj pv yv => ?_) (fun σ H6 pv => ?_)
      · obtain ⟨rfl, hx6⟩ := yv
        obtain ⟨o6, hG6, v3, v6, rfl⟩ := pv
        obtain ⟨f, hf, rfl⟩ := strs_get hx6
        have hfp := List.mem_of_getElem? hf
        have hnt : f ∉ ps.take j := fun z => by
          obtain ⟨j2, hj2, e2⟩ := List.getElem_of_mem z
          rw [List.getElem_take] at e2
          rw [List.length_take] at hj2
          obtain ⟨hi, e3⟩ := List.getElem?_eq_some_iff.mp hf
          have := (List.getElem_inj (h₀ := by omega) (h₁ := hi) hnd).mp (e2.trans e3.symm)
          omega
        have hc6 := o6 _ _ ac hc4
        have gr := hG6.gr hfp hep
        rw [if_neg hnt] at gr
        refine gname (seq_asg ?_)
        refine ⟨_, rfl, _, rfl, c, _, rfl, dget_row hc6 hep, _, rfl, _, rfl, c, _, rfl, dget_row hc6 hfp, _, _, rfl, rfl, ?_⟩
        refine gname ?_
        refine ⟨_, rfl, _, rfl, _, rfl, D, _, rfl, hG6.gd hfp, _, rfl, sa f, _, rfl, gr, _, _, rfl, rfl, _, rfl, ite2 (fun hlt => ?_) (fun hlt => ?_)⟩
        · have hlt : G' f e < cntL r e - cntL r f := of_decide_eq_true hlt
          obtain ⟨p1, p2⟩ := hG6.put hinj hnd hfp hep (cntL r e - cntL r f)
          refine ⟨_, rfl, _, rfl, _, rfl, D, _, rfl, hG6.gd hfp, _, rfl, sa f, _, rfl, .inl ⟨_, .inr e, hG6.r f hfp, rfl, hlen _, rfl⟩, o6.trans p2, p1.congr fun a ha b hb => ?_, _, _, rfl⟩
          unfold putG
          by_cases z : a = f
          · rw [if_pos z, if_pos ((take_in hnd hf a).mpr (.inr z)), z, hone f b]
            by_cases y : b = e
            · rw [if_pos y, if_pos y, y]
              omega
            · rw [if_neg y, if_neg y]
              exact if_neg hnt
          · rw [if_neg z]
            dsimp only
            by_cases y : a ∈ ps.take j
            · rw [if_pos y, if_pos ((take_in hnd hf a).mpr (.inl y))]
            · rw [if_neg y, if_neg (fun h => ((take_in hnd hf a).mp h).elim y z)]
        · have hlt : ¬ G' f e < cntL r e - cntL r f := fun h => hlt (decide_eq_true h)
          refine ⟨o6, hG6.congr fun a ha b hb => ?_, _, _, rfl⟩
          by_cases y : a ∈ ps.take j
          · rw [if_pos y, if_pos ((take_in hnd hf a).mpr (.inl y))]
          · rw [if_neg y]
            by_cases z : a = f
            · rw [if_pos ((take_in hnd hf a).mpr (.inr z)), z, hone f b]
              by_cases y : b = e
              · rw [if_pos y, y]
                omega
              · rw [if_neg y]
            · rw [if_neg (fun h => ((take_in hnd hf a).mp h).elim y z)]
      · obtain ⟨o6, hG6, v3, v6, rfl⟩ := pv
        rw [List.length_map, List.take_length] at hG6
        refine ⟨maxG G' r, o4.trans o6, hG6.congr fun f hf l _ => if_pos hf, hMx, o6 _ _ ac hc4, _, _, _, rfl⟩
    · obtain ⟨G', o3, hG3, hM3, hc3, v3, v5, v6, rfl⟩ := pv
      rw [List.length_map, List.take_length] at hM3
      exact q _ G' (o1.trans o3) hG3 hM3
def spLeadsOf (K : PySem.W.Frag) : Sp := fun vs H Q _ => ∃ (a b : Addr) (evs : List Str) (gs : List Addr) (lg : Addr → List Str), vs = [.ref a, .ref b] ∧ Sq K H a (evs.map V.str) ∧ Sq K H b (gs.map V.ref) ∧ LogsOk K H evs gs lg ∧ (("" : Str) :: evs).Nodup ∧ evs.length ≤ 8 ∧
  ∀ D H' G, Same H H' → H D = none → Learnt (PreL (gs.map lg)) G → SmAt H' D (("" : Str) :: evs) (SofG "" evs G) → Q (.ref D) H'
theorem ok_leads_of {f : Addr} {fd : FuncData} (F : Fun K "leads_of" "leads_of" s_leads_of f fd) (T : Txt mg) (cwiden : Cal P w K mg base 1 "widen" (spWiden K) []) : FnOk P w K mg base CX0 2 f fd ["events", "logs"] (spLeadsOf K) := by
  have nd := sc_leads_of.nd
  refine F.ok sc_leads_of (fun vs H Q E h => ?_) (fun cdv A outer s H vs Q E hr h => ?_)
  · obtain ⟨_, _, _, _, _, rfl, _⟩ := h
    rfl
  · obtain ⟨a, b, evs, gs, lg, rfl, ha, hb, ok, hnd, hl8, q⟩ := h
    have hu := hu_of hr
    refine ⟨_, (pss_cons (ps_set (i := 2) nd rfl (Or.inr rfl) (pe_lst (pa_cons (pe_gs rfl T.m_NOTHING) (StX.pa_star (pv 0) pa_nil))))
      (pss_cons (ps_setDc (i := 3) (y := "known") (own := [("first", 5)]) (g := gName 5) (tt := tYes) rfl nd rfl rfl (sw_dict rfl rfl rfl (by decide +kernel)) (pi_list (pv 2)) (blkOk_by (N := ["events", "logs", "places", "known", "log", "first", "last"]) (sc := defScope s_leads_of) (by decide +kernel)) (fun _ _ _ _ _ => pg_name (i := 5) nd rfl (Or.inl rfl)) (fun _ _ _ _ _ => pts_nil) (fun _ _ _ _ _ => (pv 5)) (fun _ _ _ _ _ => (by exact (pe_dc (own := [("last", 6)]) (g := gName 6) (wi := iList K (tVar 2)) rfl nd (pi_list (pv 2)) (blkOk_by (N := ["events", "logs", "places", "known", "log", "first", "last"]) (sc := { kind := .function, names := [(".0", .local), ("first", .local), ("places", .cell)], isGenerator := false, isCoroutine := false }) (by decide +kernel)) (fun _ _ _ _ _ => pg_name (i := 6) nd rfl (Or.inl rfl)) (fun _ _ _ _ _ => pts_nil) (fun _ _ _ _ _ => (pv 6)) (fun _ _ _ _ _ => pe_int)))))
      (pss_cons (ps_for PassesOwn.never rfl (pi_seq K (pv 1)) (pg_name (i := 4) nd rfl (Or.inl rfl))
      (pss_one (ps_expr (pe_c cwiden hr (by decide) rfl (pa_cons (pv 3) (pa_cons (pv 4) pa_nil))))))
      (pss_one (ps_ret (pv 3)))))), ?_⟩
    have hl9 : (("" : Str) :: evs).length ≤ 9 := by rw [List.length_cons]; omega
    refine seq_asg ?_
    refine ⟨_, rfl, a, _, rfl, ha.symm, ?_, fun Lp nLp => ?_⟩
    · show (V.str "" :: (evs.map V.str ++ [])).length ≤ sizeLine
      rw [List.append_nil, List.length_cons, List.length_map]
      exact Nat.le_trans (by omega) (sz 100)
    have e1 : V.str ("" : Str) :: (evs.map V.str ++ []) = (("" : Str) :: evs).map V.str := by rw [List.append_nil]; rfl
    have s1 := same_upd nLp (o := .lst (V.str ("" : Str) :: (evs.map V.str ++ [])))
    have kp : (upd H Lp (.lst (V.str ("" : Str) :: (evs.map V.str ++ [])))) Lp = some (.lst (V.str ("" : Str) :: (evs.map V.str ++ []))) := upd_same
    revert s1 kp
    generalize upd H Lp (.lst (V.str ("" : Str) :: (evs.map V.str ++ []))) = H1
    intro s1 kp
    rw [e1] at kp
    clear nLp
    have hm : ∀ l ∈ gs, ∀ e ∈ lg l, e ∈ ("" : Str) :: evs := fun l hl e he => List.mem_cons_of_mem _ (ok.sub l hl e he)
    revert hnd hl9 kp hm
    generalize hps : ("" : Str) :: evs = ps
    intro hnd hl9 kp hm
    refine gname (seq_asg ?_)
    refine ⟨_, rfl, Lp, rfl, ⟨_, .inl (.inl kp)⟩, fun D nD => ?_⟩
    refine dcK_it (walk_list (K := K) (a := Lp) (xs := ps.map V.str)) (fun i H' => OutAt H1 D ps (fun f => .dK (kvR V.int (rowG ps fun _ => 0))) i H') (OutAt.begin nD) (fun i H' _ pv => .inl (.inl (pv.1 _ _ kp))) (fun i x H3' H3 hi pv yv => ?_) (fun H3 pv => ?_)
    · obtain ⟨rfl, hx⟩ := yv
      obtain ⟨f, hf, rfl⟩ := strs_get hx
      have s3 := pv.1
      refine ⟨rfl, _, rfl, ?_⟩
      refine ⟨_, rfl, Lp, rfl, ⟨_, .inl (.inl (s3 _ _ kp))⟩, fun R nR => ?_⟩
      refine dcK_it (walk_list (K := K) (a := Lp) (xs := ps.map V.str)) (fun j H' => Same H3 H' ∧ H' R = some (.dK (kvR V.int (rowG (ps.take j) fun _ => 0)))) ⟨same_upd nR, upd_same⟩ (fun j H' _ pv => .inl (.inl (pv.1 _ _ (s3 _ _ kp)))) (fun j x H4' H4 hj pv4 yv => ?_) (fun H4 pv4 => ?_)
      · obtain ⟨rfl, hx⟩ := yv
        obtain ⟨g, hg, rfl⟩ := strs_get hx
        obtain ⟨s4, hR4⟩ := pv4
        refine ⟨rfl, _, rfl, _, .inr g, rfl, hR4, ?_, same_put nR s4, ?_⟩
        · rw [kvR_len]
          unfold rowG
          rw [List.length_map, List.length_take]
          exact Nat.lt_of_le_of_lt (Nat.le_trans (Nat.min_le_right _ _) hl9) (Nat.lt_of_lt_of_le (by omega) (sz 10))
        · rw [upd_same, putK_new _ (by rw [valV_kvR, getR_none (by rw [rowG_keys]; exact take_notin hnd hg)]; rfl)]
          have htk : ps.take (j + 1) = ps.take j ++ [g] := by rw [List.take_add_one, hg]; rfl
          rw [htk]
          unfold rowG kvR
          rw [List.map_append, List.map_append]
          rfl
      · obtain ⟨s4, hR4⟩ := pv4
        rw [List.length_map, List.take_length] at hR4
        obtain ⟨kvs, hk, hkl, hn⟩ := pv.step nD hnd hf nR s4 hR4
        exact ⟨kvs, .inr f, rfl, hk, Nat.lt_of_le_of_lt hkl (Nat.lt_of_lt_of_le (by rw [List.length_map] at hi; omega) (sz 1000)), hn⟩
    rw [List.length_map] at pv
    obtain ⟨s3, sa, hsd, hsr, hsi⟩ := pv
    rw [List.take_length] at hsd hsr hsi
    have hA : Apt ps D sa := ⟨hsi, fun f hf => (hsr f hf).2.2⟩
    have hG : GAt ps ps D sa H3 fun _ _ => 0 := ⟨hsd, fun f hf => (hsr f hf).1⟩
    have hfr : ∀ f ∈ ps, H (sa f) = none := fun f hf => s1.free (hsr f hf).2.1
    have nD0 := s1.free nD
    have s03 := Same.trans s1 s3
    clear hsd hsr hsi
    refine gname (seq_st ?_)
    refine for_seqA (H0 := H) (fun i σ H' => ∃ G', Same H H' ∧ GAt ps ps D sa H' G' ∧ Learnt (PreL ((gs.take i).map lg)) G' ∧ ∃ v4, σ = [some (.ref a), some (.ref b), some (.ref Lp), some (.ref D), v4, none, none]) (fun Q hQ => ⟨_, rfl, hQ⟩) hb
      ⟨_, s03, hG, learnt0.congr fun q => ⟨fun h => h.elim, fun ⟨_, h, _⟩ => nomatch h⟩, _, rfl⟩ (fun i σ H' _ pv => by obtain ⟨_, s, _⟩ := pv; exact fun o => s _ o) (fun i x σ H' hx pv => ?_) (fun σ H' pv => ?_)
    · obtain ⟨G', s4, hG4, hM4, v4, rfl⟩ := pv
      obtain ⟨g, hg, rfl⟩ := refs_get hx
      have hgm := List.mem_of_getElem? hg
      have htk : gs.take (i + 1) = gs.take i ++ [g] := by rw [List.take_add_one, hg]; rfl
      refine ⟨_, rfl, _, rfl, D, g, ps, lg g, sa, G', _, H, rfl, hG4, hA, hnd, hl9, hM4, hm g hgm, ok.len g hgm, s4, hfr, ok.at' g hgm, fun H5 G5 o5 hG5 hM5 => ?_⟩
      refine ⟨G5, o5.from s4 hfr, hG5, hM5.congr fun q => ?_, _, rfl⟩
      rw [htk, List.map_append, preL_app]
      exact or_congr Iff.rfl preL_one.symm
    · obtain ⟨G', s4, hG4, hM4, v4, rfl⟩ := pv
      rw [List.length_map, List.take_length] at hM4
      refine ⟨_, rfl, q D H' G' s4 nD0 hM4 ?_⟩
      rw [hps]
      refine ⟨sa, fun f => rowG ps (G' f), hG4.d, hG4.r, fun f hf => ⟨by rw [rowG_keys]; exact hnd, fun j hj => by rw [rowG_keys] at hj; exact hj, fun l => ?_⟩⟩
      unfold SofG
      rw [hps]
      by_cases hl : l ∈ ps
      · rw [if_pos hl, rowG_get hl]
      · rw [if_neg hl, getR_none (by rw [rowG_keys]; exact hl)]
def spLearnt (K : PySem.W.Frag) (C : Addr) : Sp := fun vs H Q _ => ∃ (a b : Addr) (evs : List Str) (gs : List Addr) (lg : Addr → List Str), vs = [.ref a, .ref b] ∧ Sq K H a (evs.map V.str) ∧ Sq K H b (gs.map V.ref) ∧ EvsOk evs ∧ LogsOk K H evs gs lg ∧
  ∀ p H' G, Same H H' → H p = none → Learnt (PreL (gs.map lg)) G → PlanAt K C H' p (planOf evs (SofG "" evs G)) → Q (.ref p) H'
theorem ok_learnt {C f : Addr} {fd : FuncData} (F : Fun K "learnt" "learnt" s_learnt f fd) (T : Txt mg) (cneed_events : Cal P w K mg base 2 "need_events" (spEvents K) []) (cneed_logs : Cal P w K mg base 2 "need_logs" (spNeedLogs K) []) (cleads_of : Cal P w K mg base 2 "leads_of" (spLeadsOf K) []) (cplan_of : Cal P w K mg base 7 "plan_of" (spPlanOfS K C) []) : FnOk P w K mg base CX0 8 f fd ["events", "logs"] (spLearnt K C) := by
  have nd := sc_learnt.nd
  refine F.ok sc_learnt (fun vs H Q E h => ?_) (fun cdv A outer s H vs Q E hr h => ?_)
  · obtain ⟨_, _, _, _, _, rfl, _⟩ := h
    rfl
  · obtain ⟨a, b, evs, gs, lg, rfl, ha, hb, ev, ok, q⟩ := h
    have hu := hu_of hr
    refine ⟨_, (pss_cons (ps_expr (pe_c cneed_events hr (by decide) rfl (pa_cons (pv 0) pa_nil)))
      (pss_cons (ps_expr (pe_c cneed_logs hr (by decide) rfl (pa_cons (pv 0) (pa_cons (pv 1) pa_nil))))
      (pss_one (ps_ret (pe_c cplan_of hr (by decide) rfl (pa_cons (pv 0) (pa_cons (pe_c cleads_of hr (by decide) rfl (pa_cons (pv 0) (pa_cons (pv 1) pa_nil))) pa_nil))))))), ?_⟩
    refine ⟨_, rfl, a, evs, rfl, ha, ev, fun H1 s1 => ?_⟩
    dsimp only
    refine ⟨_, rfl, _, rfl, a, b, evs, gs, lg, rfl, sq_same ha s1, sq_same hb s1, ok.same s1, fun H2 s2 => ?_⟩
    have s02 := Same.trans s1 s2
    have nd9 : (("" : Str) :: evs).Nodup := List.nodup_cons.mpr ⟨fun h => name_ne (ev.nm _ h) rfl, ev.nd⟩
    dsimp only
    refine ⟨_, rfl, _, rfl, _, rfl, a, b, evs, gs, lg, rfl, sq_same ha s02, sq_same hb s02, ok.same s02, nd9, ev.hi, fun D H3 G s3 _ hG hS => ?_⟩
    have s03 := Same.trans s02 s3
    refine ⟨a, D, evs, _, rfl, sq_same ha s03, hS, ev, clP_learnt (List.nodup_cons.mp nd9).1 ev.nd (fun l hl e he => ?_) hG, fun p H4 s4 n4 hp4 => q p H4 G (Same.trans s03 s4) (s03.free n4) hG hp4⟩
    obtain ⟨g, hg, rfl⟩ := List.mem_map.mp hl
    exact ok.sub g hg e he

end
end Pk

set_option Elab.async false
set_option linter.all false
set_option maxRecDepth 100000
set_option maxHeartbeats 4000000
namespace Pk
open PySem PySem.Spec PyProof.Rows L2 Pu
abbrev s_law_read : Stmt := topS 78
theorem sc_law_read : FnScope ["_law_sheet"] ["_law_sheet"] (defScope s_law_read) := ⟨rfl, rfl, rfl, by decide +kernel, rfl, by decide +kernel, by decide +kernel⟩

section
variable {P : Program} {w : World} {K : PySem.W.Frag} {mg : Str → Option Value} {base : Heap}
theorem mergeK_nd : ∀ {kvs acc : List (Key × V)}, ((acc ++ kvs).map (·.1)).Nodup → mergeK acc kvs = acc ++ kvs
  | [], acc, _ => (List.append_nil acc).symm
  | c :: r, acc, h => by
    have e : valV acc c.1 = none := by
      rw [List.map_append, List.map_cons, List.nodup_append] at h
      have h3 := h.2.2
      unfold valV
      cases q : acc.find? fun kv => decide (kv.1 = c.1) with
      | none => rfl
      | some x =>
        have h4 : decide (x.1 = c.1) = true := List.find?_some (p := fun kv : Key × V => decide (kv.1 = c.1)) q
        exact absurd (of_decide_eq_true h4) (h3 _ (List.mem_map_of_mem (f := (·.1)) (List.mem_of_find?_eq_some q)) _ (List.mem_cons_self ..))
    show mergeK (putK acc c.1 c.2) r = _
    rw [putK_new _ e, mergeK_nd]
    · rw [List.append_assoc]
      rfl
    · rw [List.append_assoc]
      exact h
theorem MdAt.same {H H' : Hp} {m : Addr} {d : PlanD} (h : MdAt H m d) (s : Same H H') : MdAt H' m d := by
  obtain ⟨e, t, c, ts, h1, h2, h3, h4, h5⟩ := h
  exact ⟨e, t, c, ts, s _ _ h1, s _ _ h2, s _ _ h3, h4.same s, s _ _ h5⟩
def spRead (K : PySem.W.Frag) (C : Addr) : Sp := fun vs H Q _ => ∃ (p : Addr) (d : PlanD), vs = [.ref p] ∧ PlanAt K C H p d ∧ ∀ l e t c ts H', Same H H' → H l = none → H' l = some (.lst [.ref e, .ref t, .ref c]) → H' e = some (.lst (d.evs.map V.str)) → H' t = some (.lst (ts.map V.ref)) → TiesAt H' ts d.ties → H' c = some (.dK (capsV d.caps)) → Q (.ref l) H'
theorem ok_read {C f : Addr} {fd : FuncData} (F : Fun K "_law_read" "_law_read" s_law_read f fd) (T : Txt mg) (PI : PlanI K C) (cEvents : CalM P w K mg base 1 C "events" (spPEvents K C)) (cTies : CalM P w K mg base 1 C "ties" (spPTies K C)) (cLimits : CalM P w K mg base 1 C "limits" (spPLimits K C)) :
    FnOk P w K mg base CX0 2 f fd ["_law_sheet"] (spRead K C) := by
  have nd := sc_law_read.nd
  refine F.ok sc_law_read (fun vs H Q E h => ?_) (fun cdv A outer s H vs Q E hr h => ?_)
  · obtain ⟨_, _, rfl, _⟩ := h
    rfl
  · obtain ⟨p, d, rfl, hp, q⟩ := h
    refine ⟨_, (pss_one (ps_ret (pe_lst (pa_cons (pe_m0' (pv 0) PI.cls cEvents hr (by decide)) (pa_cons (pe_m0' (pv 0) PI.cls cTies hr (by decide)) (pa_cons (pe_m0' (pv 0) PI.cls cLimits hr (by decide)) pa_nil)))))), ?_⟩
    obtain ⟨dx, o, r, cc, ts0, g1, _⟩ := id hp.ex
    refine ⟨_, rfl, p, dx, _, rfl, g1, rfl, p, d, rfl, hp, fun e ne => ?_⟩
    have s1 := same_upd ne (o := .lst (d.evs.map V.str))
    have k1 : (upd H e (.lst (d.evs.map V.str))) e = some (.lst (d.evs.map V.str)) := upd_same
    revert s1 k1
    generalize upd H e (.lst (d.evs.map V.str)) = H1
    intro s1 k1
    have hp1 := hp.same s1
    refine ⟨_, rfl, p, dx, _, rfl, s1 _ _ g1, rfl, p, d, rfl, hp1, fun t ts nt ht => ?_⟩
    have s2 := same_upd nt (o := .lst (ts.map V.ref))
    have k2 : (upd H1 t (.lst (ts.map V.ref))) t = some (.lst (ts.map V.ref)) := upd_same
    have ht2 := ht.same s2
    have s02 := Same.trans s1 s2
    have k1 := s2 _ _ k1
    revert s02 k2 ht2 k1
    generalize upd H1 t (.lst (ts.map V.ref)) = H2
    intro k2 ht2 s02 k1
    have hp2 := hp.same s02
    refine ⟨_, rfl, p, dx, _, rfl, s02 _ _ g1, rfl, p, d, rfl, hp2, fun c nc => ⟨sz 3, fun l nl => ?_⟩⟩
    have s3 := same_upd nc (o := .dK (capsV d.caps))
    have s4 := same_upd nl (o := .lst [.ref e, .ref t, .ref c])
    have s24 := Same.trans s3 s4
    exact q l e t c ts _ (Same.trans s02 s24) ((Same.trans s02 s3).free nl) upd_same (s24 _ _ k1) (s24 _ _ k2) (ht2.same s24) (s4 _ _ upd_same)

end
end Pk

set_option Elab.async false
set_option linter.all false
set_option maxRecDepth 100000
set_option maxHeartbeats 4000000
namespace Pk
open PySem PySem.Spec PyProof.Rows L2 Pu
abbrev s_law_is_moment : Stmt := topS 77
theorem sc_law_is_moment : FnScope ["_law_model_here", "_law_counts", "_law_marks", "_law_cords", "_law_caps", "_law_event", "_law_tie"] ["_law_model_here", "_law_counts"] (defScope s_law_is_moment) := ⟨rfl, rfl, rfl, by decide +kernel, rfl, by decide +kernel, by decide +kernel⟩

section
variable {P : Program} {w : World} {K : PySem.W.Frag} {mg : Str → Option Value} {base : Heap}
/-! ### whether counts are a moment of a model -/
def momB (d : PlanD) (f : Str → Int) : Bool := d.evs.all (fun e => decide (0 ≤ f e)) && (d.caps.all (fun c => decide (f c.1 ≤ c.2)) && d.ties.all fun t => decide (f t.2.1 ≤ f t.1 + t.2.2))
def valR (rs : SR) (x : Str) : Int := (getR rs x).getD 0
theorem getR_in {rs : SR} {x : Str} (h : x ∈ rs.map (·.1)) : getR rs x = some (valR rs x) := by
  unfold valR
  cases hg : getR rs x with
  | some v => rfl
  | none =>
    exfalso
    revert hg
    induction rs with
    | nil => cases h
    | cons c r ih =>
      intro hg
      have hg : (if c.1 = x then some c.2 else getR r x) = none := hg
      by_cases e : c.1 = x
      · rw [if_pos e] at hg; cases hg
      · rw [if_neg e] at hg
        rcases List.mem_cons.mp h with h | h
        · exact e h.symm
        · exact ih h hg
theorem valV_in {rs : SR} {x : Str} (h : x ∈ rs.map (·.1)) : valV (kvR V.int rs) (.inr x) = some (.int (valR rs x)) := by
  rw [valV_kvR, getR_in h]
  rfl
theorem kvR_keys (rs : SR) : (kvR V.int rs).map (·.1) = (rs.map (·.1)).map Sum.inr := by
  unfold kvR
  rw [List.map_map, List.map_map]
  rfl
def spIsMoment : Sp := fun vs H Q _ => ∃ (m c : Addr) (d : PlanD) (rs : SR), vs = [.ref m, .ref c] ∧ MdAt H m d ∧ PlanOk d ∧ H c = some (.dK (kvR V.int rs)) ∧ (rs.map (·.1)).Perm d.evs ∧ ∀ H', Same H H' → Q (.bl (momB d (valR rs))) H'
theorem ok_is_moment {f : Addr} {fd : FuncData} (F : Fun K "_law_is_moment" "_law_is_moment" s_law_is_moment f fd) (T : Txt mg) : FnOk P w K mg base CX0 2 f fd ["_law_model_here", "_law_counts"] spIsMoment := by
  have nd := sc_law_is_moment.nd
  refine F.ok sc_law_is_moment (fun vs H Q E h => ?_) (fun cdv A outer s H vs Q E hr h => ?_)
  · obtain ⟨_, _, _, _, rfl, _⟩ := h
    rfl
  · obtain ⟨m, cq, d, rs, rfl, ⟨e, t, c, ts, h1, h2, h3, h4, h5⟩, ok, hc, hp, q⟩ := h
    have hu := hu_of hr
    refine ⟨_, (pss_cons (ps_asg (pv 0) (pg_unl rfl (pgs_cons (pg_name (i := 2) nd rfl (Or.inl rfl)) (pgs_cons (pg_name (i := 3) nd rfl (Or.inl rfl)) (pgs_cons (pg_name (i := 4) nd rfl (Or.inr rfl)) pgs_nil)))))
      (pss_cons (ps_if (PW.pt (pw_or (pt_cmpR (op_neB K hr) (pe_callB (call_sortedD rfl) (by rfl) T.m_sorted PyProof.Rows.boot_sorted (pa_cons (pv 1) pa_nil)) (pe_callB (srtS K) (by rfl) T.m_sorted PyProof.Rows.boot_sorted (pa_cons (pv 2) pa_nil)) (by rfl)) (pw_or1 (pt_cmpR op_lt (pe_callB (minK K) (by rfl) T.m_min PyProof.Rows.boot_min (pa_cons (pe_lc (own := [("_law_event", 5)]) (g := gName 5) (tt := tYes) rfl nd (pi_list (pv 2)) (blkOk_by (N := ["_law_model_here", "_law_counts", "_law_marks", "_law_cords", "_law_caps", "_law_event", "_law_tie"]) (sc := defScope s_law_is_moment) (by decide +kernel)) (fun _ _ _ _ _ => pg_name (i := 5) nd rfl (Or.inl rfl)) (fun _ _ _ _ _ => pts_nil) (fun _ _ _ _ _ => (pe_dget hu (pv 1) (pv 5) (fun _ _ => rfl)))) pa_nil)) pe_int (by rfl)))))
      (pss_one (ps_ret pe_bl)) pss_nil)
      (pss_cons (ps_if (pt_cmpR (op_neB K hr) (pe_lock (pe_lc (own := [("_law_event", 5)]) (g := gName 5) rfl nd (pi_keys (pv 4)) (blkOk_by (N := ["_law_model_here", "_law_counts", "_law_marks", "_law_cords", "_law_caps", "_law_event", "_law_tie"]) (sc := defScope s_law_is_moment) (by decide +kernel)) (fun _ _ _ _ _ => pg_name (i := 5) nd rfl (Or.inl rfl)) (fun _ _ _ _ _ => pts_one (pt_cmpR op_gt (pe_dget hu (pv 1) (pv 5) (fun _ _ => rfl)) (pe_dget hu (pv 4) (pv 5) (fun _ _ => rfl)) (by rfl))) (fun _ _ _ _ _ => (pv 5)))) (pe_lst pa_nil) (by rfl))
      (pss_one (ps_ret pe_bl)) pss_nil)
      (pss_one (ps_ret (pe_cmpR (op_eqB K hr) (pe_lc (own := [("_law_tie", 6)]) (g := gName 6) rfl nd (pi_list (pv 3)) (blkOk_by (N := ["_law_model_here", "_law_counts", "_law_marks", "_law_cords", "_law_caps", "_law_event", "_law_tie"]) (sc := defScope s_law_is_moment) (by decide +kernel)) (fun _ _ _ _ _ => pg_name (i := 6) nd rfl (Or.inl rfl)) (fun _ _ _ _ _ => pts_one (pt_cmpR op_gt (pe_dget hu (pv 1) (pe_ix (ixT K) (pv 6) pe_int (fun _ _ => rfl)) (fun _ _ => rfl)) (pe_op oAdd (pe_dget hu (pv 1) (pe_ix (ixT K) (pv 6) pe_int (fun _ _ => rfl)) (fun _ _ => rfl)) (pe_ix (ixT K) (pv 6) pe_int (fun _ _ => rfl))) (by rfl))) (fun _ _ _ _ _ => (pv 6))) (pe_lst pa_nil) (by rfl))))))), ?_⟩
    have hl8 := ok.evs.hi
    refine seq_asg ?_
    refine ⟨_, rfl, m, _, rfl, .inl (.inl h1), rfl, _, _, rfl, _, _, rfl, _, _, rfl, rfl, ?_⟩
    refine gname ?_
    have hpl : (rs.map (·.1)).length = d.evs.length := hp.length_eq
    have hin : ∀ x ∈ d.evs, x ∈ rs.map (·.1) := fun x hx => hp.mem_iff.mpr hx
    refine ⟨_, rfl, cq, _, rs.map (·.1), rfl, .inl hc, kvR_keys rs, by omega, fun ys p1 hy1 hy2 np1 => ?_⟩
    have s1 := same_upd np1 (o := .lst (ys.map V.str))
    have k1 : (upd H p1 (.lst (ys.map V.str))) p1 = some (.lst (ys.map V.str)) := upd_same
    revert s1 k1
    generalize upd H p1 (.lst (ys.map V.str)) = H1
    intro s1 k1
    refine ⟨_, rfl, e, d.evs, rfl, .inl (.inl (s1 _ _ h2)), by omega, fun zs p2 hz1 hz2 np2 => ?_⟩
    have hyz : ys = zs := sorted_uniq hy2 hz2 ((hy1.trans hp).trans hz1.symm)
    subst hyz
    have s2 := same_upd np2 (o := .lst (ys.map V.str))
    have s02 := Same.trans s1 s2
    refine ⟨1, true, by decide, ?_, _, rfl, iteF ?_⟩
    · exact strs_eq (.inl (.inl (s2 _ _ k1))) (.inl (.inl upd_same))
    revert s02
    generalize upd H1 p2 (.lst (ys.map V.str)) = H2
    intro s02
    clear s1 k1 s2 np2 np1
    have hc2 := s02 _ _ hc
    refine ⟨_, rfl, e, rfl, ⟨_, .inl (.inl (s02 _ _ h2))⟩, fun D nD => ?_⟩
    refine lc_it (walk_list (K := K) (a := e) (xs := d.evs.map V.str)) (fun i H' => Same H2 H' ∧ H' D = some (.lst (((d.evs.take i).map (valR rs)).map V.int))) ⟨same_upd nD, upd_same⟩ (fun i H' _ pv => .inl (.inl (pv.1 _ _ (s02 _ _ h2)))) (fun i x H3' H3 hi pv yv => ?_) (fun H3 pv => ?_)
    · obtain ⟨rfl, hx⟩ := yv
      obtain ⟨g, hg, rfl⟩ := strs_get hx
      obtain ⟨s3, hD3⟩ := pv
      refine ⟨rfl, _, rfl, _, rfl, cq, _, rfl, .inl ⟨kvR V.int rs, .inr g, .inl (s3 _ _ hc2), rfl, (valV_in (hin g (List.mem_of_getElem? hg))).symm⟩, ?_⟩
      refine ⟨_, hD3, ?_, same_put nD s3, ?_⟩
      · rw [List.length_map, List.length_map, List.length_take]
        exact Nat.lt_of_le_of_lt (Nat.min_le_right _ _) (Nat.lt_of_le_of_lt hl8 (Nat.lt_of_lt_of_le (by decide) (sz 9)))
      · rw [upd_same, List.take_add_one, hg, List.map_append, List.map_append]
        rfl
    rw [List.length_map, List.take_length] at pv
    obtain ⟨s3, hD3⟩ := pv
    refine ⟨D, d.evs.map (valR rs), rfl, .inl (.inl hD3), by rw [List.length_map]; exact ok.evs.lo, fun mn hm hle => ?_⟩
    have s03 := Same.trans s02 s3
    have nneg : ∀ x ∈ d.evs, mn ≤ valR rs x := fun x hx => hle _ (List.mem_map_of_mem hx)
    obtain ⟨xm, hxm, rfl⟩ := List.mem_map.mp hm
    refine ⟨_, _, rfl, rfl, _, rfl, ite2 (fun h0 => ?_) (fun h0 => ?_)⟩
    · have h0 : valR rs xm < 0 := of_decide_eq_true h0
      have hF : momB d (valR rs) = false := by
        unfold momB
        rw [show d.evs.all (fun e => decide (0 ≤ valR rs e)) = false from List.all_eq_false.mpr ⟨xm, hxm, by rw [decide_eq_false (by omega)]; decide⟩, Bool.false_and]
      rw [hF] at q
      exact q _ s03
    have h0 : 0 ≤ valR rs xm := by
      by_cases z : valR rs xm < 0
      · exact absurd (decide_eq_true z) h0
      · omega
    have hA : d.evs.all (fun e => decide (0 ≤ valR rs e)) = true := List.all_eq_true.mpr fun x hx => decide_eq_true (Int.le_trans h0 (nneg x hx))
    have q : ∀ H', Same H H' → Q (.bl (d.caps.all (fun c => decide (valR rs c.1 ≤ c.2)) && d.ties.all fun t => decide (valR rs t.2.1 ≤ valR rs t.1 + t.2.2))) H' := fun H' s => by
      have := q H' s
      unfold momB at this
      rwa [hA, Bool.true_and] at this
    have hc8 := caps_len ok
    have hc3 := s03 _ _ h5
    refine ⟨c, _, hc3, True.intro, fun od => ?_⟩
    have hL : (upd H3 c (.frz od (.dK (capsV d.caps)))) c = some (.frz od (.dK (capsV d.caps))) := upd_same
    have unl : ∀ {H'}, Same (upd H3 c (.frz od (.dK (capsV d.caps)))) H' → Same H3 (upd H' c (.dK (capsV d.caps))) := fun s => unlock_same hc3 s
    have fr : ∀ {b}, (upd H3 c (.frz od (.dK (capsV d.caps)))) b = none → H3 b = none ∧ b ≠ c := fun {b} hb => by
      have : b ≠ c := fun z => by rw [z, hL] at hb; cases hb
      rw [upd_ne this] at hb
      exact ⟨hb, this⟩
    have hq4 : (upd H3 c (.frz od (.dK (capsV d.caps)))) cq = some (.dK (kvR V.int rs)) ∨ ∃ o, (upd H3 c (.frz od (.dK (capsV d.caps)))) cq = some (.frz o (.dK (kvR V.int rs))) := by
      by_cases z : cq = c
      · rw [z] at hc
        rw [h5] at hc
        have hc : capsV d.caps = kvR V.int rs := by injection hc with hc; injection hc
        rw [z, ← hc]
        exact .inr ⟨od, hL⟩
      · rw [upd_ne z]
        exact .inl (s03 _ _ hc)
    revert hL unl fr hq4
    generalize upd H3 c (.frz od (.dK (capsV d.caps))) = H4
    intro hL unl fr hq4
    have rd4 : ∀ {H'}, Same H4 H' → H' cq = some (.dK (kvR V.int rs)) ∨ ∃ o, H' cq = some (.frz o (.dK (kvR V.int rs))) := fun s => hq4.imp (s _ _) fun ⟨o, h⟩ => ⟨o, s _ _ h⟩
    refine ⟨_, rfl, c, od, rfl, .inl ⟨_, hL, fun D2 nD2 => ?_⟩⟩
    refine lc_it (walk_keys (d := c) (o := od) (kvs := capsV d.caps)) (fun i H' => Same H4 H' ∧ H' D2 = some (.lst ((((d.caps.take i).filter fun c => decide (c.2 < valR rs c.1)).map (·.1)).map V.str))) ⟨same_upd nD2, upd_same⟩ (fun i H' _ pv => pv.1 _ _ hL) (fun i x H5' H5 hi pv yv => ?_) (fun H5 pv => ?_)
    · obtain ⟨rfl, k, v, hk, rfl⟩ := yv
      obtain ⟨s5, hD5⟩ := pv
      have hlen : (capsV d.caps).length = d.caps.length := List.length_map ..
      rw [hlen] at hi
      have hci : d.caps[i]? = some d.caps[i] := List.getElem?_eq_getElem hi
      have hk2 : (capsV d.caps)[i]? = some (.inr d.caps[i].1, .int d.caps[i].2) := by
        unfold capsV
        rw [List.getElem?_map, hci]
        rfl
      rw [hk2] at hk
      cases hk
      have hg : valV (capsV d.caps) (.inr d.caps[i].1) = some (.int d.caps[i].2) := by
        rw [valV_capOf, capOf_nd ok.cnd (List.getElem_mem hi)]
        rfl
      refine ⟨rfl, _, rfl, _, rfl, cq, _, rfl, .inl ⟨kvR V.int rs, .inr d.caps[i].1, rd4 s5, rfl, (valV_in (hin _ (ok.cin _ (List.getElem_mem hi)).1)).symm⟩, ?_⟩
      refine ⟨_, rfl, _, rfl, c, _, rfl, .inl ⟨capsV d.caps, .inr d.caps[i].1, .inr ⟨od, s5 _ _ hL⟩, rfl, hg.symm⟩, _, _, rfl, rfl, _, rfl, ite2 (fun hb => ?_) (fun hb => ?_)⟩
      · refine ⟨_, rfl, _, hD5, ?_, same_put nD2 s5, ?_⟩
        · rw [List.length_map, List.length_map]
          exact Nat.lt_of_le_of_lt flt_len (Nat.lt_of_le_of_lt hc8 (Nat.lt_of_lt_of_le (by decide) (sz 9)))
        · rw [upd_same, flt_take hi hb, List.map_append, List.map_append]
          rfl
      · exact ⟨s5, by rw [flt_skip hi hb]; exact hD5⟩
    · obtain ⟨s5, hD5⟩ := pv
      have hlen : (capsV d.caps).length = d.caps.length := List.length_map ..
      rw [hlen, List.take_length] at hD5
      have s35 := unl s5
      have hD6 : (upd H5 c (.dK (capsV d.caps))) D2 = some (.lst (((d.caps.filter fun c => decide (c.2 < valR rs c.1)).map (·.1)).map V.str)) := by rw [upd_ne (fr nD2).2]; exact hD5
      refine ⟨s5 _ _ hL, ?_⟩
      revert s35 hD6
      generalize upd H5 c (.dK (capsV d.caps)) = H6
      intro s35 hD6
      have s06 := Same.trans s03 s35
      clear s5 hD5 hL unl fr hq4 rd4 nD2
      have hcaps := all_flt (fun c : Str × Int => decide (c.2 < valR rs c.1)) (fun c => decide (valR rs c.1 ≤ c.2)) d.caps fun c _ => by
        by_cases z : c.2 < valR rs c.1
        · rw [decide_eq_true z, decide_eq_false (by omega)]; rfl
        · rw [decide_eq_false z, decide_eq_true (by omega)]; rfl
      rw [hcaps] at q
      refine ⟨sz 0, fun L0 nL0 => ⟨1, _, by decide, empV_eq (same_upd nL0 _ _ hD6) upd_same, _, rfl, ?_⟩⟩
      have s7 := same_upd nL0 (o := .lst [])
      have s07 := Same.trans s06 s7
      rw [List.length_map, List.length_map]
      refine ite2 (fun hb => ?_) (fun hb => ?_)
      · cases hz : decide ((d.caps.filter fun c => decide (c.2 < valR rs c.1)).length = 0) with
        | true => rw [hz] at hb; cases hb
        | false =>
          rw [hz, Bool.false_and] at q
          exact q _ s07
      have hz : decide ((d.caps.filter fun c => decide (c.2 < valR rs c.1)).length = 0) = true := by
        cases hz : decide ((d.caps.filter fun c => decide (c.2 < valR rs c.1)).length = 0) with
        | true => rfl
        | false => rw [hz] at hb; exact absurd rfl hb
      rw [hz, Bool.true_and] at q
      have hties := all_flt (fun t : Str × Str × Int => decide (valR rs t.1 + t.2.2 < valR rs t.2.1)) (fun t => decide (valR rs t.2.1 ≤ valR rs t.1 + t.2.2)) d.ties fun t _ => by
        by_cases z : valR rs t.1 + t.2.2 < valR rs t.2.1
        · rw [decide_eq_true z, decide_eq_false (by omega)]; rfl
        · rw [decide_eq_false z, decide_eq_true (by omega)]; rfl
      rw [hties] at q
      revert s07
      generalize upd H6 L0 (.lst []) = H7
      intro s07
      clear s7 nL0 hb hz hD6 s35 s06 hties hcaps hA
      have h37 := s07 _ _ h3
      have hT7 := h4.same s07
      refine ⟨_, rfl, t, rfl, ⟨_, .inl (.inl h37)⟩, fun D3 nD3 => ?_⟩
      refine lc_it (walk_list (K := K) (a := t) (xs := ts.map V.ref)) (fun i H' => Same H7 H' ∧ ∃ as : List Addr, H' D3 = some (.lst (as.map V.ref)) ∧ as.length = ((d.ties.take i).filter fun t : Str × Str × Int => decide (valR rs t.1 + t.2.2 < valR rs t.2.1)).length) ⟨same_upd nD3, [], upd_same, rfl⟩ (fun i H' _ pv => .inl (.inl (pv.1 _ _ h37))) (fun i x H8' H8 hi pv yv => ?_) (fun H8 pv => ?_)
      · obtain ⟨rfl, hx⟩ := yv
        obtain ⟨a, tt, rfl, htm, htg, hta⟩ := hT7.get hx
        obtain ⟨s8, as, hD8, hal⟩ := pv
        have hi2 : i < d.ties.length := (List.getElem?_eq_some_iff.mp htg).1
        have hte : d.ties[i] = tt := (List.getElem?_eq_some_iff.mp htg).2
        obtain ⟨hu1, hv1, _⟩ := ok.tin tt htm
        have hta8 := s8 _ _ hta
        have hd8 : ∀ {x}, x ∈ d.evs → DGet H8 cq (.str x) (some (.int (valR rs x))) := fun {x} hx => .inl ⟨kvR V.int rs, .inr x, .inl (s8 _ _ (s07 _ _ hc)), rfl, (valV_in (hin x hx)).symm⟩
        refine ⟨rfl, _, rfl, _, rfl, a, rowV tt, ((1 : Nat) : Int), .str tt.2.1, rfl, rfl, .inl (.inl hta8), atI_nat rfl, cq, _, rfl, hd8 hv1, ?_⟩
        refine ⟨_, rfl, _, rfl, a, rowV tt, ((0 : Nat) : Int), .str tt.1, rfl, rfl, .inl (.inl hta8), atI_nat rfl, cq, _, rfl, hd8 hu1, ?_⟩
        refine ⟨_, rfl, a, rowV tt, ((2 : Nat) : Int), .int tt.2.2, rfl, rfl, .inl (.inl hta8), atI_nat rfl, .inl ⟨_, _, rfl, rfl, _, _, rfl, rfl, _, rfl, ite2 (fun hb => ?_) (fun hb => ?_)⟩⟩
        · refine ⟨_, rfl, _, hD8, ?_, same_put nD3 s8, as ++ [a], by rw [upd_same, List.map_append]; rfl, ?_⟩
          · rw [List.length_map, hal]
            exact Nat.lt_of_le_of_lt flt_len (Nat.lt_of_le_of_lt ok.tl (Nat.lt_of_lt_of_le (by decide) (sz 61)))
          · rw [flt_take hi2 (by rw [hte]; exact hb), List.length_append, List.length_append, hal]
            rfl
        · exact ⟨s8, as, hD8, by rw [flt_skip hi2 (by rw [hte]; exact hb)]; exact hal⟩
      · obtain ⟨s8, as, hD8, hal⟩ := pv
        rw [List.length_map, hT7.length, List.take_length] at hal
        refine ⟨sz 0, fun L0 nL0 => ⟨1, _, by decide, empV_eq (same_upd nL0 _ _ hD8) upd_same, ?_⟩⟩
        rw [List.length_map, hal]
        exact q _ (Same.trans s07 (Same.trans s8 (same_upd nL0)))

end
end Pk

set_option Elab.async false
set_option linter.all false
set_option maxRecDepth 100000
set_option maxHeartbeats 4000000
namespace Pk
open PySem PySem.Spec PyProof.Rows L2 Pu
abbrev s_law_small : Stmt := topS 76
theorem sc_law_small : FnScope ["_law_box_here", "_law_many", "_law_marks", "_law_cords", "_law_caps", "_law_one", "_law_other", "_law_lag_here", "_law_event"] ["_law_box_here", "_law_many"] (defScope s_law_small) := ⟨rfl, rfl, rfl, by decide +kernel, rfl, by decide +kernel, by decide +kernel⟩

section
variable {P : Program} {w : World} {K : PySem.W.Frag} {mg : Str → Option Value} {base : Heap}
/-! ### dicts of integers made of pairs -/
def PairN (H : Hp) (ts : List Addr) (L : SR) : Prop := Paired (fun t c => H t = some (.tup [.str c.1, .int c.2])) ts L
theorem PairN.keep {H H' : Hp} {ts : List Addr} {L : SR} (h : PairN H ts L) (k : ∀ a xs, H a = some (.tup xs) → H' a = some (.tup xs)) : PairN H' ts L := by
  unfold PairN at *
  induction h with
  | nil => exact .nil
  | cons r _ ih => exact .cons (k _ _ r) ih
theorem PairN.snoc {H : Hp} {ts : List Addr} {L : SR} {t : Addr} {c : Str × Int} (h : PairN H ts L) (h1 : H t = some (.tup [.str c.1, .int c.2])) : PairN H (ts ++ [t]) (L ++ [c]) := by
  unfold PairN at *
  induction h with
  | nil => exact .cons h1 .nil
  | cons r _ ih => exact .cons r ih
theorem PairN.kvs {H : Hp} {ts : List Addr} {L : SR} (h : PairN H ts L) : Paired (fun (p : Addr) (kv : Key × V) => SqT K H p [kV kv.1, kv.2]) ts (kvR V.int L) := by
  unfold PairN at h
  induction h with
  | nil => exact .nil
  | cons r _ ih => exact .cons (.inl (.inl r)) ih
theorem pairN_step {H2 H' : Hp} {D T : Addr} {ts : List Addr} {L : SR} {c : Str × Int} (nD : H2 D = none) (s : Same H2 H') (hD : H' D = some (.lst (ts.map V.ref))) (hP : PairN H' ts L) (nT : H' T = none) :
    (upd H' T (.tup [.str c.1, .int c.2])) D = some (.lst (ts.map V.ref)) ∧ Same H2 (upd (upd H' T (.tup [.str c.1, .int c.2])) D (.lst (ts.map V.ref ++ [.ref T]))) ∧ (upd (upd H' T (.tup [.str c.1, .int c.2])) D (.lst (ts.map V.ref ++ [.ref T]))) D = some (.lst ((ts ++ [T]).map V.ref)) ∧ PairN (upd (upd H' T (.tup [.str c.1, .int c.2])) D (.lst (ts.map V.ref ++ [.ref T]))) (ts ++ [T]) (L ++ [c]) := by
  have sT := same_upd nT (o := .tup [.str c.1, .int c.2])
  have hTD : T ≠ D := fun z => by rw [z, hD] at nT; cases nT
  refine ⟨sT _ _ hD, same_put nD (Same.trans s sT), by rw [upd_same, List.map_append]; rfl, ?_⟩
  refine PairN.snoc (hP.keep fun a xs h => ?_) ?_
  · have h2 := sT _ _ h
    rw [upd_ne (ne_of h2 (sT _ _ hD) (fun z => nomatch z))]
    exact h2
  · rw [upd_ne hTD]
    exact upd_same
theorem merge_nd {L : SR} (nd : (L.map (·.1)).Nodup) : mergeK [] (kvR V.int L) = kvR V.int L := by
  rw [mergeK_nd (kvs := kvR V.int L) (acc := [])]
  · rfl
  · rw [List.nil_append, kvR_keys]
    unfold List.Nodup
    rw [List.pairwise_map]
    exact List.Pairwise.imp (fun h z => h (Sum.inr.inj z)) nd
/-! ### the law's least moment -/
def leastD (d : PlanD) (e : Str) (n : Int) : SR := d.evs.map fun g => (g, if n - ((getR (far d g) e).getD n) > 0 then n - ((getR (far d g) e).getD n) else 0)
theorem leastD_keys (d : PlanD) (e : Str) (n : Int) : (leastD d e n).map (·.1) = d.evs := by
  unfold leastD
  rw [List.map_map]
  exact List.map_id' _

/-! ### a small model -/
def smD (d : PlanD) : PlanD := ⟨d.evs, d.ties.map fun t => (t.1, t.2.1, if t.2.2 < 3 then t.2.2 else 2), d.caps.map fun c => (c.1, if c.2 < 3 then c.2 else 3)⟩
structure Small (d : PlanD) (m : Nat) : Prop where
  ok : PlanOk d
  len : d.evs.length = m
  lag : ∀ t ∈ d.ties, t.2.2 ≤ 2
  cap : ∀ c ∈ d.caps, c.2 ≤ 3
  tl : d.ties.length ≤ 2 * m
theorem sm_small {d : PlanD} {m : Nat} (h : LMod d m (2 * m)) : Small (smD d) m := by
  have ok := h.ok
  refine ⟨⟨ok.evs, by show (d.ties.map _).length ≤ 60; rw [List.length_map]; exact ok.tl, fun t ht => ?_, fun c hc => ?_, ?_, ?_⟩, h.len, fun t ht => ?_, fun c hc => ?_, by show (d.ties.map _).length ≤ 2 * m; rw [List.length_map]; exact h.tl⟩
  · obtain ⟨t, ht0, rfl⟩ := List.mem_map.mp ht
    obtain ⟨h1, h2, h3⟩ := ok.tin t ht0
    refine ⟨h1, h2, ?_⟩
    show 0 ≤ (if t.2.2 < 3 then t.2.2 else 2)
    split <;> omega
  · obtain ⟨c, hc0, rfl⟩ := List.mem_map.mp hc
    obtain ⟨h1, h2⟩ := ok.cin c hc0
    refine ⟨h1, ?_⟩
    show 0 ≤ (if c.2 < 3 then c.2 else 3)
    split <;> omega
  · have e : (smD d).caps.map (·.1) = d.caps.map (·.1) := by
      unfold smD
      rw [List.map_map]
      rfl
    rw [e]
    exact ok.cnd
  · obtain ⟨ρ, hρ⟩ := ok.up
    refine ⟨ρ, fun t ht h0 => ?_⟩
    obtain ⟨t, ht0, rfl⟩ := List.mem_map.mp ht
    have h0 : (if t.2.2 < 3 then t.2.2 else 2) = 0 := h0
    refine hρ t ht0 ?_
    by_cases z : t.2.2 < 3
    · rwa [if_pos z] at h0
    · rw [if_neg z] at h0; cases h0
  · obtain ⟨t, ht, rfl⟩ := List.mem_map.mp ht
    show (if t.2.2 < 3 then t.2.2 else 2) ≤ 2
    split <;> omega
  · obtain ⟨c, hc, rfl⟩ := List.mem_map.mp hc
    show (if c.2 < 3 then c.2 else 3) ≤ 3
    split <;> omega
def spSmall : Sp := fun vs H Q _ => ∃ (b : Addr) (m : Nat) (n : Int), vs = [.ref b, .int m] ∧ 1 ≤ m ∧ m ≤ 8 ∧ n ≤ 800000 ∧ Box H b n ∧
  ∀ q d H', Box H' b (n + 600) → Pu.Ext b H H' → ModAt b H' q d → Small d m → Q (.ref q) H'
theorem ok_small {f : Addr} {fd : FuncData} (F : Fun K "_law_small" "_law_small" s_law_small f fd) (T : Txt mg) (claw_model : Cal P w K mg base 3 "_law_model" spModel []) : FnOk P w K mg base CX0 4 f fd ["_law_box_here", "_law_many"] spSmall := by
  have nd := sc_law_small.nd
  refine F.ok sc_law_small (fun vs H Q E h => ?_) (fun cdv A outer s H vs Q E hr h => ?_)
  · obtain ⟨_, _, _, rfl, _⟩ := h
    rfl
  · obtain ⟨b, m, n, rfl, hm1, hm8, hn, hB, q⟩ := h
    have hu := hu_of hr
    refine ⟨_, (pss_cons (ps_asg (pe_c claw_model hr (by decide) rfl (pa_cons (pv 0) (pa_cons (pv 1) (pa_cons (pe_op op_mul pe_int (pv 1)) pa_nil)))) (pg_unl rfl (pgs_cons (pg_name (i := 2) nd rfl (Or.inl rfl)) (pgs_cons (pg_name (i := 3) nd rfl (Or.inl rfl)) (pgs_cons (pg_name (i := 4) nd rfl (Or.inr rfl)) pgs_nil)))))
      (pss_cons (ps_setLc (i := 3) (y := "_law_cords") (own := [("_law_one", 5), ("_law_other", 6), ("_law_lag_here", 7)]) (g := (gTup K 3 (gCons (gName 5) (gCons (gName 6) (gCons (gName 7) gNil))))) (tt := tYes) rfl nd rfl rfl (sw_true rfl rfl rfl (by decide +kernel)) (pi_list (pv 3)) (blkOk_by (N := ["_law_box_here", "_law_many", "_law_marks", "_law_cords", "_law_caps", "_law_one", "_law_other", "_law_lag_here", "_law_event"]) (sc := defScope s_law_small) (by decide +kernel)) (fun _ _ _ _ _ => (pg_tup rfl (pgs_cons (pg_name (i := 5) nd rfl (Or.inl rfl)) (pgs_cons (pg_name (i := 6) nd rfl (Or.inl rfl)) (pgs_cons (pg_name (i := 7) nd rfl (Or.inl rfl)) pgs_nil))))) (fun _ _ _ _ _ => pts_nil) (fun _ _ _ _ _ => (pe_tup (pa_cons (pv 5) (pa_cons (pv 6) (pa_cons (pe_ifExp (pt_cmpR op_lt (pv 7) pe_int (by rfl)) (pv 7) pe_int) pa_nil))))))
      (pss_one (ps_ret (pe_lst (pa_cons (pv 2) (pa_cons (pv 3) (pa_cons (pe_callTy (call_dictP rfl) (by rfl) T.m_dict PyProof.Rows.boot_dict (pa_cons (pe_lock (pe_lc (own := [("_law_event", 8)]) (g := gName 8) (tt := tYes) rfl nd (pi_keys (pv 4)) (blkOk_by (N := ["_law_box_here", "_law_many", "_law_marks", "_law_cords", "_law_caps", "_law_one", "_law_other", "_law_lag_here", "_law_event"]) (sc := defScope s_law_small) (by decide +kernel)) (fun _ _ _ _ _ => pg_name (i := 8) nd rfl (Or.inl rfl)) (fun _ _ _ _ _ => pts_nil) (fun _ _ _ _ _ => (pe_tup (pa_cons (pv 8) (pa_cons (pe_callB (call_min2 rfl) (by rfl) T.m_min PyProof.Rows.boot_min (pa_cons pe_int (pa_cons (pe_dget hu (pv 4) (pv 8) (fun _ _ => rfl)) pa_nil))) pa_nil)))))) pa_nil)) pa_nil)))))))), ?_⟩
    refine seq_asg ?_
    refine ⟨_, rfl, _, rfl, _, rfl, _, _, rfl, rfl, ?_⟩
    refine ⟨.inl (by decide), b, m, 2 * m, n, (by rw [Int.natCast_mul]; rfl), hm1, hm8, by omega, hn, hB, fun y d H1 B1 x1 ny hM hL => ?_⟩
    have ok := hL.ok
    have hSm := sm_small hL
    have hl8 := ok.evs.hi
    have ht60 := ok.tl
    have hc8 := caps_len ok
    obtain ⟨e, t, c, ts, h1, h2, h3, h4, h5, n1, n2, n3, n4, n5⟩ := hM
    refine ⟨y, _, rfl, .inl (.inl h1), rfl, _, _, rfl, _, _, rfl, _, _, rfl, rfl, ?_⟩
    refine seq_asg ?_
    refine ⟨_, rfl, t, rfl, ⟨_, .inl (.inl h3)⟩, fun D nD => ?_⟩
    refine lc_it (walk_list (K := K) (a := t) (xs := ts.map V.ref)) (fun i H' => Same H1 H' ∧ ∃ as, H' D = some (.lst (as.map V.ref)) ∧ TiesAt H' as ((smD d).ties.take i) ∧ as.length ≤ i) ⟨same_upd nD, [], upd_same, .nil, Nat.le_refl _⟩ (fun i H' _ pv => .inl (.inl (pv.1 _ _ h3))) (fun i x H3' H3 hi pv yv => ?_) (fun H3 pv => ?_)
    · obtain ⟨rfl, hx⟩ := yv
      obtain ⟨a, tt, rfl, htm, htg, hta⟩ := h4.get hx
      obtain ⟨s3, as, hD3, hR3, hla⟩ := pv
      have hta3 := s3 _ _ hta
      refine ⟨a, _, rfl, .inl (.inl hta3), rfl, _, _, rfl, _, _, rfl, _, _, rfl, rfl, rfl, ?_⟩
      have hgi : (smD d).ties[i]? = some (tt.1, tt.2.1, if tt.2.2 < 3 then tt.2.2 else 2) := by
        unfold smD
        rw [List.getElem?_map, htg]
        rfl
      have hit : i < d.ties.length := (List.getElem?_eq_some_iff.mp htg).1
      have stp : ∀ v : Int, (if tt.2.2 < 3 then tt.2.2 else 2) = v → (smD d).ties.take (i + 1) = (smD d).ties.take i ++ [(tt.1, tt.2.1, v)] := fun v hv => by
        rw [List.take_add_one, hgi, hv]
        rfl
      refine ⟨_, rfl, _, rfl, _, rfl, _, _, rfl, rfl, _, rfl, ite2 (fun z => ?_) (fun z => ?_)⟩
      · exact ⟨_, rfl, sz 3, fun T nT => lst_step (r := (tt.1, tt.2.1, tt.2.2)) (n := d.ties.length) nD hD3 hR3 s3 hla hit (stp _ (if_pos (of_decide_eq_true z))) nT (by omega)⟩
      · exact ⟨sz 3, fun T nT => lst_step (r := (tt.1, tt.2.1, 2)) (n := d.ties.length) nD hD3 hR3 s3 hla hit (stp _ (if_neg fun h => z (decide_eq_true h))) nT (by omega)⟩
    obtain ⟨s3, as, hD3, hR3, hla⟩ := pv
    rw [List.length_map, h4.length, show d.ties.length = (smD d).ties.length from by unfold smD; rw [List.length_map], List.take_length] at hR3
    have B3 := B1.same s3
    have x3 := x1.trans (same_ext s3)
    have nDb : D ≠ b := (B1.ne nD).symm
    have h23 := s3 _ _ h2
    have hc3 := s3 _ _ h5
    clear h1 h3 h4 h5 nD s3 hla B1 x1 h2
    refine gname ?_
    refine ⟨_, rfl, _, rfl, c, _, hc3, True.intro, fun od => ?_⟩
    have hL : (upd H3 c (.frz od (.dK (capsV d.caps)))) c = some (.frz od (.dK (capsV d.caps))) := upd_same
    have unl : ∀ {H'}, Same (upd H3 c (.frz od (.dK (capsV d.caps)))) H' → Same H3 (upd H' c (.dK (capsV d.caps))) := fun s => unlock_same hc3 s
    have fr : ∀ {b}, (upd H3 c (.frz od (.dK (capsV d.caps)))) b = none → H3 b = none ∧ b ≠ c := fun {b} hb => by
      have : b ≠ c := fun z => by rw [z, hL] at hb; cases hb
      rw [upd_ne this] at hb
      exact ⟨hb, this⟩
    revert hL unl fr
    generalize upd H3 c (.frz od (.dK (capsV d.caps))) = H4
    intro hL unl fr
    refine ⟨_, rfl, c, od, rfl, .inl ⟨_, hL, fun D2 nD2 => ?_⟩⟩
    refine lc_it (walk_keys (d := c) (o := od) (kvs := capsV d.caps)) (fun i H' => Same H4 H' ∧ ∃ as, H' D2 = some (.lst (as.map V.ref)) ∧ PairN H' as ((smD d).caps.take i)) ⟨same_upd nD2, [], upd_same, .nil⟩ (fun i H' _ pv => pv.1 _ _ hL) (fun i x H5' H5 hi pv yv => ?_) (fun H5 pv => ?_)
    · obtain ⟨rfl, k, v, hk, rfl⟩ := yv
      obtain ⟨s5, as2, hD5, hP5⟩ := pv
      have hlen : (capsV d.caps).length = d.caps.length := List.length_map ..
      rw [hlen] at hi
      have hci : d.caps[i]? = some d.caps[i] := List.getElem?_eq_getElem hi
      have hk2 : (capsV d.caps)[i]? = some (.inr d.caps[i].1, .int d.caps[i].2) := by
        unfold capsV
        rw [List.getElem?_map, hci]
        rfl
      rw [hk2] at hk
      cases hk
      have hg : valV (capsV d.caps) (.inr d.caps[i].1) = some (.int d.caps[i].2) := by
        rw [valV_capOf, capOf_nd ok.cnd (List.getElem_mem hi)]
        rfl
      refine ⟨rfl, _, rfl, _, rfl, _, rfl, c, _, rfl, .inl ⟨capsV d.caps, .inr d.caps[i].1, .inr ⟨od, s5 _ _ hL⟩, rfl, hg.symm⟩, _, _, rfl, sz 2, fun T nT => ?_⟩
      obtain ⟨w1, w2, w3, w4⟩ := pairN_step (c := (d.caps[i].1, if d.caps[i].2 < 3 then d.caps[i].2 else 3)) nD2 s5 hD5 hP5 nT
      refine ⟨_, w1, ?_, w2, _, w3, ?_⟩
      · rw [List.length_map, Paired.length hP5, List.length_take]
        exact Nat.lt_of_le_of_lt (Nat.min_le_right _ _) (by unfold smD; rw [List.length_map]; exact Nat.lt_of_le_of_lt hc8 (Nat.lt_of_lt_of_le (by decide) (sz 9)))
      · rw [List.take_add_one, show (smD d).caps[i]? = some _ from by unfold smD; rw [List.getElem?_map, hci]; rfl]
        exact w4
    · obtain ⟨s5, as2, hD5, hP5⟩ := pv
      have hlen : (capsV d.caps).length = (smD d).caps.length := by unfold smD capsV; rw [List.length_map, List.length_map]
      rw [hlen, List.take_length] at hP5
      have s35 := unl s5
      have hD6 : (upd H5 c (.dK (capsV d.caps))) D2 = some (.lst (as2.map V.ref)) := by rw [upd_ne (fr nD2).2]; exact hD5
      have hP6 : PairN (upd H5 c (.dK (capsV d.caps))) as2 (smD d).caps := hP5.keep fun a xs h => by
        rw [upd_ne]
        · exact h
        · intro z
          rw [z, s5 _ _ hL] at h
          cases h
      refine ⟨s5 _ _ hL, D2, as2, kvR V.int (smD d).caps, rfl, ?_⟩
      revert s35 hD6 hP6
      generalize upd H5 c (.dK (capsV d.caps)) = H6
      intro s35 hD6 hP6
      refine ⟨.inl (.inl hD6), hP6.kvs, fun c' nc' => ?_⟩
      rw [merge_nd hSm.ok.cnd]
      have s7 := same_upd nc' (o := .dK (kvR V.int (smD d).caps))
      have k7 : (upd H6 c' (.dK (kvR V.int (smD d).caps))) c' = some (.dK (capsV (smD d).caps)) := upd_same
      have s37 := Same.trans s35 s7
      have nc'b : c' ≠ b := ((B3.same s35).ne nc').symm
      revert k7 s37
      generalize upd H6 c' (.dK (kvR V.int (smD d).caps)) = H7
      intro k7 s37
      refine ⟨sz 3, fun l nl => ?_⟩
      have s8 := same_upd nl (o := .lst [.ref e, .ref D, .ref c'])
      have s38 := Same.trans s37 s8
      have B8 := B3.same s38
      have hT8 := hR3.same s38
      refine q l (smD d) _ B8 (x3.trans (same_ext s38)) ⟨e, D, c', as, upd_same, s38 _ _ h23, s38 _ _ hD3, hT8, s8 _ _ k7, ((B3.same s37).ne nl).symm, n2, nDb, nc'b, fun x hx => ?_⟩ hSm
      obtain ⟨j, hj, rfl⟩ := List.mem_iff_getElem.mp hx
      obtain ⟨a, t', e1, _, _, ha⟩ := hT8.get (i := j) (x := .ref as[j]) (by rw [List.getElem?_map, List.getElem?_eq_getElem hj]; rfl)
      have e1 : as[j] = a := by injection e1
      rw [e1]
      obtain ⟨x, y, z, hb, _⟩ := B8
      exact ne_of ha hb fun z => nomatch z

end
end Pk

set_option Elab.async false
set_option linter.all false
set_option maxRecDepth 100000
set_option maxHeartbeats 4000000
namespace Pk
open PySem PySem.Spec PyProof.Rows L2 Pu
abbrev s_law_run : Stmt := topS 79
theorem sc_law_run : FnScope ["_law_box_here", "_law_model_here", "_law_many", "_law_event", "_law_counts", "_law_found", "_law_turn", "_law_more"] ["_law_box_here", "_law_model_here", "_law_many"] (defScope s_law_run) := ⟨rfl, rfl, rfl, by decide +kernel, rfl, by decide +kernel, by decide +kernel⟩

section
variable {P : Program} {w : World} {K : PySem.W.Frag} {mg : Str → Option Value} {base : Heap}
/-! ### all that is asked of one plan -/
theorem SumsAt.ext {b q : Addr} {H H' : Hp} {n : Int} {d : PlanD} (h : SumsAt H q d) (B : Box H b n) (e : Pu.Ext b H H') : SumsAt H' q d := by
  obtain ⟨x, y, z, hb, _⟩ := B
  obtain ⟨sa, Z, h1, h2, h3⟩ := h.ex
  exact ⟨sa, Z, e _ _ (ne_of h1 hb (fun z => nomatch z)) h1, fun f hf => e _ _ (ne_of (h2 f hf) hb (fun z => nomatch z)) (h2 f hf), h3⟩
theorem plan_box {C b p : Addr} {H H' : Hp} {n : Int} {d : PlanD} (h : PlanAt K C H p d) (B : Box H b n) (e : Pu.Ext b H H') : PlanAt K C H' p d := by
  obtain ⟨x, y, z, hb, _⟩ := id B
  obtain ⟨dx, o, r, c, ts, h1, h2, h3, h4, h5⟩ := h.ex
  have sq : ∀ {a xs}, SqT K H a xs → SqT K H' a xs := fun {a xs} h => by
    rcases h with (h | ⟨o, h⟩) | h
    · exact .inl (.inl (e _ _ (ne_of h hb (fun z => nomatch z)) h))
    · exact .inl (.inr ⟨o, e _ _ (ne_of h hb (fun z => nomatch z)) h⟩)
    · exact .inr h
  exact ⟨dx, o, r, c, ts, e _ _ (ne_of h1 hb (fun z => nomatch z)) h1, sq h2, sq h3, h4.keep fun x _ r hr => e _ _ (ne_of hr hb (fun z => nomatch z)) hr, e _ _ (ne_of h5 hb (fun z => nomatch z)) h5⟩
theorem ModAt.md {b m : Addr} {H : Hp} {d : PlanD} (h : ModAt b H m d) : MdAt H m d := by
  obtain ⟨e, t, c, ts, h1, h2, h3, h4, h5, _⟩ := h
  exact ⟨e, t, c, ts, h1, h2, h3, h4, h5⟩
/-- a drawn model by its places -/
structure MX (e t c : Addr) (ts : List Addr) (b : Addr) (H : Hp) (m : Addr) (d : PlanD) : Prop where
  h1 : H m = some (.lst [.ref e, .ref t, .ref c])
  h2 : H e = some (.lst (d.evs.map V.str))
  h3 : H t = some (.lst (ts.map V.ref))
  h4 : TiesAt H ts d.ties
  h5 : H c = some (.dK (capsV d.caps))
  n1 : m ≠ b
  n2 : e ≠ b
  n3 : t ≠ b
  n4 : c ≠ b
  n5 : ∀ x ∈ ts, x ≠ b
theorem MX.mod {e t c : Addr} {ts : List Addr} {b : Addr} {H : Hp} {m : Addr} {d : PlanD} (h : MX e t c ts b H m d) : ModAt b H m d := ⟨e, t, c, ts, h.h1, h.h2, h.h3, h.h4, h.h5, h.n1, h.n2, h.n3, h.n4, h.n5⟩
theorem MX.ext {e t c : Addr} {ts : List Addr} {b : Addr} {H H' : Hp} {m : Addr} {d : PlanD} (h : MX e t c ts b H m d) (x : Pu.Ext b H H') : MX e t c ts b H' m d :=
  ⟨x _ _ h.n1 h.h1, x _ _ h.n2 h.h2, x _ _ h.n3 h.h3, h.h4.keep fun y hy r hr => x _ _ (h.n5 y hy) hr, x _ _ h.n4 h.h5, h.n1, h.n2, h.n3, h.n4, h.n5⟩

/-! ### a run of a model, drawn from the box -/
theorem momB_congr {d : PlanD} (ok : PlanOk d) {f g : Str → Int} (h : ∀ x ∈ d.evs, f x = g x) : momB d f = momB d g := by
  have one : ∀ {f g : Str → Int}, (∀ x ∈ d.evs, f x = g x) → momB d f = true → momB d g = true := fun {f g} h hm => by
    unfold momB at *
    rw [Bool.and_eq_true_iff, Bool.and_eq_true_iff, List.all_eq_true, List.all_eq_true, List.all_eq_true] at *
    obtain ⟨h1, h2, h3⟩ := hm
    refine ⟨fun x hx => ?_, fun c hc => ?_, fun t ht => ?_⟩
    · rw [← h x hx]; exact h1 x hx
    · rw [← h c.1 (ok.cin c hc).1]; exact h2 c hc
    · rw [← h t.1 (ok.tin t ht).1, ← h t.2.1 (ok.tin t ht).2.1]; exact h3 t ht
  rw [Bool.eq_iff_iff]
  exact ⟨one h, one fun x hx => (h x hx).symm⟩
def spRun : Sp := fun vs H Q _ => ∃ (b m : Addr) (d : PlanD) (k : Nat) (n : Int), vs = [.ref b, .ref m, .int k] ∧ ModAt b H m d ∧ PlanOk d ∧ k ≤ 300 ∧ n ≤ 900000 ∧ Box H b n ∧
  ∀ l es H', Box H' b (n + k) → Pu.Ext b H H' → H l = none → H' l = some (.lst (es.map V.str)) → es.length ≤ k → (∀ e ∈ es, e ∈ d.evs) → (∀ p x, p ++ [x] <+: es → momB d (cntL (p ++ [x])) = true) → Q (.ref l) H'
theorem ok_run {f : Addr} {fd : FuncData} (F : Fun K "_law_run" "_law_run" s_law_run f fd) (T : Txt mg) (claw_take : Cal P w K mg base 1 "_law_take" spTake []) (claw_is_moment : Cal P w K mg base 2 "_law_is_moment" spIsMoment []) : FnOk P w K mg base CX0 3 f fd ["_law_box_here", "_law_model_here", "_law_many"] spRun := by
  have nd := sc_law_run.nd
  refine F.ok sc_law_run (fun vs H Q E h => ?_) (fun cdv A outer s H vs Q E hr h => ?_)
  · obtain ⟨_, _, _, _, _, rfl, _⟩ := h
    rfl
  · obtain ⟨b, m, d, k, n, rfl, hM, ok, hk, hn, hB, qq⟩ := h
    have hu := hu_of hr
    refine ⟨_, (pss_cons (ps_par (i := 4) (j := 5) rfl nd rfl rfl (by decide) rfl rfl (pa_cons (pe_callTy (call_dictP rfl) (by rfl) T.m_dict PyProof.Rows.boot_dict (pa_cons (pe_lc (own := [("_law_event", 3)]) (g := gName 3) (tt := tYes) rfl nd (pi_list (pe_ix (ixL K) (pv 1) pe_int (fun _ _ => rfl))) (blkOk_by (N := ["_law_box_here", "_law_model_here", "_law_many", "_law_event", "_law_counts", "_law_found", "_law_turn", "_law_more"]) (sc := defScope s_law_run) (by decide +kernel)) (fun _ _ _ _ _ => pg_name (i := 3) nd rfl (Or.inl rfl)) (fun _ _ _ _ _ => pts_nil) (fun _ _ _ _ _ => (pe_tup (pa_cons (pv 3) (pa_cons pe_int pa_nil))))) pa_nil)) (pa_cons (pe_lst pa_nil) pa_nil)) (by rfl))
      (pss_cons (ps_for PassesOwn.never rfl (pi_range1 rfl T.m_range (pa_cons (pv 2) pa_nil)) (pg_name (i := 6) nd rfl (Or.inl rfl))
      (pss_cons (ps_set (i := 3) nd rfl (Or.inl rfl) (pe_ix (ixL K) (pe_ix (ixL K) (pv 1) pe_int (fun _ _ => rfl)) (pe_c claw_take hr (by decide) rfl (pa_cons (pv 0) (pa_cons (pe_callB (lenK K) (by rfl) T.m_len PySem.boot_len (pa_cons (pe_ix (ixL K) (pv 1) pe_int (fun _ _ => rfl)) pa_nil)) pa_nil))) (fun _ _ => rfl)))
      (pss_cons (ps_set (i := 7) nd rfl (Or.inl rfl) (pe_callTy call_dictD (by rfl) T.m_dict PyProof.Rows.boot_dict (pa_cons (pv 4) pa_nil)))
      (pss_cons (ps_dput hu (pv 7) (pv 3) (pe_op oAdd (pe_dget hu (pv 7) (pv 3) (fun _ _ => rfl)) pe_int) rfl)
      (pss_one (ps_if (pt_val (pe_c claw_is_moment hr (by decide) rfl (pa_cons (pv 1) (pa_cons (pv 7) pa_nil))))
      (pss_cons (ps_set (i := 4) nd rfl (Or.inl rfl) (pv 7))
      (pss_one (ps_expr (pe_bm PySem.F.plainAttrs_list PySem.F.slot_list_append PySem.F.type_list_append mt_append (pv 5) (pa_cons (pv 3) pa_nil))))) pss_nil))))))
      (pss_one (ps_ret (pv 5))))), ?_⟩
    have hl8 := ok.evs.hi
    obtain ⟨e, t, c, ts, h1, h2, h3, h4, h5, n1, n2, n3, n4, n5⟩ := id hM
    refine seq_st ?_
    refine ⟨_, rfl, m, _, ((0 : Nat) : Int), .ref e, rfl, rfl, .inl (.inl h1), atI_nat rfl, e, rfl, ⟨_, .inl (.inl h2)⟩, fun D nD => ?_⟩
    refine lc_it (walk_list (K := K) (a := e) (xs := d.evs.map V.str)) (fun i H' => Same H H' ∧ ∃ as, H' D = some (.lst (as.map V.ref)) ∧ PairN H' as (rowG (d.evs.take i) fun _ => 0)) ⟨same_upd nD, [], upd_same, .nil⟩ (fun i H' _ pv => .inl (.inl (pv.1 _ _ h2))) (fun i x H3' H3 hi pv yv => ?_) (fun H3 pv => ?_)
    · obtain ⟨rfl, hx⟩ := yv
      obtain ⟨g, hg, rfl⟩ := strs_get hx
      obtain ⟨s3, as, hD3, hP⟩ := pv
      refine ⟨rfl, _, rfl, sz 2, fun T nT => ?_⟩
      obtain ⟨w1, w2, w3, w4⟩ := pairN_step (c := (g, 0)) nD s3 hD3 hP nT
      refine ⟨_, w1, ?_, w2, _, w3, ?_⟩
      · rw [List.length_map, Paired.length hP]
        unfold rowG
        rw [List.length_map, List.length_take]
        exact Nat.lt_of_le_of_lt (Nat.min_le_right _ _) (Nat.lt_of_le_of_lt hl8 (Nat.lt_of_lt_of_le (by decide) (sz 9)))
      · rw [List.take_add_one, hg]
        unfold rowG at *
        rw [List.map_append]
        exact w4
    obtain ⟨s3, as, hD3, hP⟩ := pv
    rw [List.length_map, List.take_length] at hP
    refine ⟨D, as, kvR V.int (rowG d.evs fun _ => 0), rfl, .inl (.inl hD3), hP.kvs, fun q nq => ?_⟩
    rw [merge_nd (by rw [rowG_keys]; exact ok.evs.nd)]
    refine ⟨sz 0, fun F nF => ⟨_, _, rfl, ?_⟩⟩
    have s4 : Same H (upd (upd H3 q (.dK (kvR V.int (rowG d.evs fun _ => 0)))) F (.lst [])) := Same.trans s3 (Same.trans (same_upd nq) (same_upd nF))
    have nFH : H F = none := (Same.trans s3 (same_upd nq)).free nF
    have hbF : b ≠ F := hB.ne nFH
    have B4 := hB.same s4
    have q4 : (upd (upd H3 q (.dK (kvR V.int (rowG d.evs fun _ => 0)))) F (.lst [])) q = some (.dK (kvR V.int (rowG d.evs (cntL [])))) := same_upd nF _ _ upd_same
    have f4 : (upd (upd H3 q (.dK (kvR V.int (rowG d.evs fun _ => 0)))) F (.lst [])) F = some (.lst []) := upd_same
    revert s4 B4 q4 f4
    generalize upd (upd H3 q (.dK (kvR V.int (rowG d.evs fun _ => 0)))) F (.lst []) = H4
    intro s4 B4 q4 f4
    clear nF nq s3 hD3 hP
    refine seq_st ?_
    refine ⟨_, rfl, k, rfl, by omega, by omega, ?_⟩
    refine for_range (fun i σ H' => Box H' b (n + i) ∧ Pu.Ext b H H' ∧ ∃ es q' v3 v6 v7, σ = [some (.ref b), some (.ref m), some (.int k), v3, some (.ref q'), some (.ref F), v6, v7] ∧ H' q' = some (.dK (kvR V.int (rowG d.evs (cntL es)))) ∧ H' F = some (.lst (es.map V.str)) ∧ es.length ≤ i ∧ (∀ e ∈ es, e ∈ d.evs) ∧ ∀ p x, p ++ [x] <+: es → momB d (cntL (p ++ [x])) = true)
      ⟨B4.mono (by omega), same_ext s4, [], q, _, _, _, rfl, q4, f4, Nat.le_refl _, (fun _ h => nomatch h), fun p x h => by have := List.prefix_nil.mp h; simp at this⟩ (fun i σ H5 hi pv => ?_) (fun σ H5 pv => ?_)
    · obtain ⟨B5, e5, es, q', v3, v6, v7, rfl, q5, f5, hl5, hin5, hr5⟩ := pv
      have hm5 := hM.ext e5
      have h15 := e5 _ _ n1 h1
      have h25 := e5 _ _ n2 h2
      refine gname (seq_asg ?_)
      refine ⟨_, rfl, m, _, ((0 : Nat) : Int), .ref e, rfl, rfl, .inl (.inl h15), atI_nat rfl, _, rfl, _, rfl, m, _, ((0 : Nat) : Int), .ref e, rfl, rfl, .inl (.inl h15), atI_nat rfl, .inl ⟨e, _, rfl, .inl (.inl (.inl h25)), b, _, _, rfl, ?_, ?_, ?_, B5, fun dd H6 g1 g2 B6 e6 => ?_⟩⟩
      · have := ok.evs.lo
        rw [List.length_map]; omega
      · rw [List.length_map]; omega
      · omega
      obtain ⟨j, rfl⟩ := Int.eq_ofNat_of_zero_le g1
      rw [List.length_map] at g2
      have hj : j < d.evs.length := by omega
      have hg : d.evs[j]? = some d.evs[j] := List.getElem?_eq_getElem hj
      have hgm := List.mem_of_getElem? hg
      revert hg hgm
      generalize d.evs[j] = g
      intro hg hgm
      refine ⟨e, _, ((j : Nat) : Int), .str g, rfl, rfl, .inl (.inl (e6 _ _ n2 h25)), atI_nat (by rw [List.getElem?_map, hg]; rfl), ?_⟩
      have B5b : ∃ x y z : Int, H5 b = some (.lst [.int x, .int y, .int z]) := by
        obtain ⟨x, y, z, hb, _⟩ := B5
        exact ⟨x, y, z, hb⟩
      obtain ⟨x, y, z, hb5⟩ := B5b
      have q6 := e6 _ _ (ne_of q5 hb5 (fun z => nomatch z)) q5
      have f6 := e6 _ _ hbF.symm f5
      have e56 := Pu.Ext.trans e5 e6
      clear hb5 h15 h25 q5 f5
      refine gname (seq_asg ?_)
      refine ⟨_, rfl, q', _, rfl, .inl q6, fun r nr => ?_⟩
      have hlen : ∀ h : Str → Int, (kvR V.int (rowG d.evs h)).length < sizeLine := fun h => by
        rw [kvR_len]
        unfold rowG
        rw [List.length_map]
        exact Nat.lt_of_le_of_lt hl8 (Nat.lt_of_lt_of_le (by omega) (sz 9))
      refine gname (seq_st ?_)
      refine ⟨_, rfl, _, rfl, r, _, rfl, dget_row upd_same hgm, .inl ⟨_, _, rfl, rfl, _, rfl, _, rfl, r, _, rfl, .inl ⟨_, .inr g, upd_same, rfl, hlen _, rfl⟩, ?_⟩⟩
      have hbr : b ≠ r := B6.ne nr
      have hFr : F ≠ r := fun z => by rw [z, nr] at f6; cases f6
      have nrH : H r = none := by
        cases z : H r with
        | none => rfl
        | some u =>
          by_cases y : r = b
          · exact absurd y.symm hbr
          · rw [e56 r u y z] at nr
            cases nr
      have e8 : Pu.Ext b H (upd (upd H6 r (.dK (kvR V.int (rowG d.evs (cntL es))))) r (.dK (putK (kvR V.int (rowG d.evs (cntL es))) (.inr g) (.int (cntL es g + 1))))) := (e56.mut nrH).mut nrH
      have B8 : Box (upd (upd H6 r (.dK (kvR V.int (rowG d.evs (cntL es))))) r (.dK (putK (kvR V.int (rowG d.evs (cntL es))) (.inr g) (.int (cntL es g + 1))))) b (n + i + 1) := (B6.upd hbr).upd hbr
      have q8 : (upd (upd H6 r (.dK (kvR V.int (rowG d.evs (cntL es))))) r (.dK (putK (kvR V.int (rowG d.evs (cntL es))) (.inr g) (.int (cntL es g + 1))))) q' = some (.dK (kvR V.int (rowG d.evs (cntL es)))) := by
        have : q' ≠ r := fun z => by rw [z, nr] at q6; cases q6
        rw [upd_ne this, upd_ne this]; exact q6
      have f8 : (upd (upd H6 r (.dK (kvR V.int (rowG d.evs (cntL es))))) r (.dK (putK (kvR V.int (rowG d.evs (cntL es))) (.inr g) (.int (cntL es g + 1))))) F = some (.lst (es.map V.str)) := by rw [upd_ne hFr, upd_ne hFr]; exact f6
      have r8 : (upd (upd H6 r (.dK (kvR V.int (rowG d.evs (cntL es))))) r (.dK (putK (kvR V.int (rowG d.evs (cntL es))) (.inr g) (.int (cntL es g + 1))))) r = some (.dK (kvR V.int (rowG d.evs (cntL (es ++ [g]))))) := by
        rw [upd_same, rowG_put ok.evs.nd hgm]
        refine congrArg (fun r => some (HO.dK (kvR V.int r))) (rowG_congr fun l hl => ?_)
        rw [cntL_snoc]
        by_cases z : l = g
        · rw [if_pos z, if_pos z.symm, z]
        · rw [if_neg z, if_neg (fun y => z y.symm), Int.add_zero]
      revert e8 B8 q8 f8 r8
      generalize upd (upd H6 r (.dK (kvR V.int (rowG d.evs (cntL es))))) r (.dK (putK (kvR V.int (rowG d.evs (cntL es))) (.inr g) (.int (cntL es g + 1)))) = H8
      intro e8 B8 q8 f8 r8
      clear nr q6 f6 e56 B6 e6
      refine ⟨_, rfl, _, rfl, m, r, d, _, rfl, (hM.ext e8).md, ok, r8, by rw [rowG_keys], fun H9 s9 => ?_⟩
      have hmb : momB d (valR (rowG d.evs (cntL (es ++ [g])))) = momB d (cntL (es ++ [g])) := momB_congr ok fun x hx => by unfold valR; rw [rowG_get hx]; rfl
      rw [hmb]
      have e9 : Pu.Ext b H H9 := e8.trans (same_ext s9)
      have B9 := B8.same s9
      refine ⟨_, rfl, ite2 (fun hy => ?_) (fun hy => ?_)⟩
      · refine seq_asg ?_
        refine ⟨_, rfl, ?_⟩
        refine gname ?_
        refine ⟨_, rfl, .inl ⟨rfl, _, .inl (.inl (s9 _ _ f8))⟩, _, rfl, F, _, _, rfl, rfl, s9 _ _ f8, ?_, B9.upd hbF |>.mono (by omega), e9.mut nFH, es ++ [g], r, _, _, _, rfl, ?_, ?_, ?_, fun x hx => ?_, fun p x hp => ?_⟩
        · rw [List.length_map]
          exact Nat.lt_of_le_of_lt hl5 (Nat.lt_of_lt_of_le (by omega) (sz 1000))
        · rw [upd_ne (fun z => by have := s9 _ _ r8; rw [z, s9 _ _ f8] at this; cases this)]
          exact s9 _ _ r8
        · rw [upd_same, List.map_append]
          rfl
        · rw [List.length_append, List.length_singleton]; omega
        · rcases List.mem_append.mp hx with hx | hx
          · exact hin5 x hx
          · exact List.mem_singleton.mp hx ▸ hgm
        · rcases pre_snoc.mp hp with hp | hp
          · exact hr5 p x hp
          · rw [hp]; exact hy
      · exact ⟨B9.mono (by omega), e9, es, q', _, _, _, rfl, s9 _ _ q8, s9 _ _ f8, by omega, hin5, hr5⟩
    · obtain ⟨B5, e5, es, q', v3, v6, v7, rfl, q5, f5, hl5, hin5, hr5⟩ := pv
      exact ⟨_, rfl, qq F es H5 (by rw [Int.toNat_natCast] at B5; exact B5) e5 nFH f5 (by rw [Int.toNat_natCast] at hl5; exact hl5) hin5 hr5⟩

end
end Pk

set_option Elab.async false
set_option linter.all false
set_option maxRecDepth 100000
set_option maxHeartbeats 4000000
namespace Pk
open PySem PySem.Spec PyProof.Rows L2 Pu
abbrev s_law_is_run : Stmt := topS 83
theorem sc_law_is_run : FnScope ["_law_model_here", "_law_row", "_law_event", "_law_counts"] ["_law_model_here", "_law_row"] (defScope s_law_is_run) := ⟨rfl, rfl, rfl, by decide +kernel, rfl, by decide +kernel, by decide +kernel⟩

section
variable {P : Program} {w : World} {K : PySem.W.Frag} {mg : Str → Option Value} {base : Heap}
/-! ### whether a log is a run of a model -/
noncomputable def runB (d : PlanD) (es : List Str) : Bool := @decide (∀ p x, p ++ [x] <+: es → momB d (cntL (p ++ [x])) = true) (Classical.propDecidable _)
theorem runB_iff {d : PlanD} {es : List Str} : runB d es = true ↔ ∀ p x, p ++ [x] <+: es → momB d (cntL (p ++ [x])) = true := by
  unfold runB
  exact @decide_eq_true_iff _ (Classical.propDecidable _)
def spIsRun : Sp := fun vs H Q _ => ∃ (m g : Addr) (d : PlanD) (es : List Str), vs = [.ref m, .ref g] ∧ MdAt H m d ∧ PlanOk d ∧ H g = some (.lst (es.map V.str)) ∧ (∀ e ∈ es, e ∈ d.evs) ∧ ∀ H', Same H H' → Q (.bl (runB d es)) H'
theorem ok_is_run {f : Addr} {fd : FuncData} (F : Fun K "_law_is_run" "_law_is_run" s_law_is_run f fd) (T : Txt mg) (claw_is_moment : Cal P w K mg base 2 "_law_is_moment" spIsMoment []) : FnOk P w K mg base CX0 3 f fd ["_law_model_here", "_law_row"] spIsRun := by
  have nd := sc_law_is_run.nd
  refine F.ok sc_law_is_run (fun vs H Q E h => ?_) (fun cdv A outer s H vs Q E hr h => ?_)
  · obtain ⟨_, _, _, _, rfl, _⟩ := h
    rfl
  · obtain ⟨m, g, d, es, rfl, hM, ok, hq, hin, qq⟩ := h
    have hu := hu_of hr
    refine ⟨_, (pss_cons (ps_set (i := 3) nd rfl (Or.inl rfl) (pe_callTy (call_dictP rfl) (by rfl) T.m_dict PyProof.Rows.boot_dict (pa_cons (pe_lc (own := [("_law_event", 2)]) (g := gName 2) (tt := tYes) rfl nd (pi_list (pe_ix (ixL K) (pv 0) pe_int (fun _ _ => rfl))) (blkOk_by (N := ["_law_model_here", "_law_row", "_law_event", "_law_counts"]) (sc := defScope s_law_is_run) (by decide +kernel)) (fun _ _ _ _ _ => pg_name (i := 2) nd rfl (Or.inl rfl)) (fun _ _ _ _ _ => pts_nil) (fun _ _ _ _ _ => (pe_tup (pa_cons (pv 2) (pa_cons pe_int pa_nil))))) pa_nil)))
      (pss_cons (ps_for PassesOwn.never rfl (pi_list (pv 1)) (pg_name (i := 2) nd rfl (Or.inl rfl))
      (pss_cons (ps_dput hu (pv 3) (pv 2) (pe_op oAdd (pe_dget hu (pv 3) (pv 2) (fun _ _ => rfl)) pe_int) rfl)
      (pss_one (ps_if (pt_not (pt_val (pe_c claw_is_moment hr (by decide) rfl (pa_cons (pv 0) (pa_cons (pv 3) pa_nil)))))
      (pss_one (ps_ret pe_bl)) pss_nil))))
      (pss_one (ps_ret pe_bl)))), ?_⟩
    have hl8 := ok.evs.hi
    obtain ⟨e, t, c, ts, h1, h2, h3, h4, h5⟩ := id hM
    refine seq_asg ?_
    refine ⟨_, rfl, m, _, ((0 : Nat) : Int), .ref e, rfl, rfl, .inl (.inl h1), atI_nat rfl, e, rfl, ⟨_, .inl (.inl h2)⟩, fun D nD => ?_⟩
    refine lc_it (walk_list (K := K) (a := e) (xs := d.evs.map V.str)) (fun i H' => Same H H' ∧ ∃ as, H' D = some (.lst (as.map V.ref)) ∧ PairN H' as (rowG (d.evs.take i) fun _ => 0)) ⟨same_upd nD, [], upd_same, .nil⟩ (fun i H' _ pv => .inl (.inl (pv.1 _ _ h2))) (fun i x H3' H3 hi pv yv => ?_) (fun H3 pv => ?_)
    · obtain ⟨rfl, hx⟩ := yv
      obtain ⟨g, hg, rfl⟩ := strs_get hx
      obtain ⟨s3, as, hD3, hP⟩ := pv
      refine ⟨rfl, _, rfl, sz 2, fun T nT => ?_⟩
      obtain ⟨w1, w2, w3, w4⟩ := pairN_step (c := (g, 0)) nD s3 hD3 hP nT
      refine ⟨_, w1, ?_, w2, _, w3, ?_⟩
      · rw [List.length_map, Paired.length hP]
        unfold rowG
        rw [List.length_map, List.length_take]
        exact Nat.lt_of_le_of_lt (Nat.min_le_right _ _) (Nat.lt_of_le_of_lt hl8 (Nat.lt_of_lt_of_le (by decide) (sz 9)))
      · rw [List.take_add_one, hg]
        unfold rowG at *
        rw [List.map_append]
        exact w4
    obtain ⟨s3, as, hD3, hP⟩ := pv
    rw [List.length_map, List.take_length] at hP
    refine ⟨D, as, kvR V.int (rowG d.evs fun _ => 0), rfl, .inl (.inl hD3), hP.kvs, fun q nq => ?_⟩
    rw [merge_nd (by rw [rowG_keys]; exact ok.evs.nd)]
    have nqH := s3.free nq
    have s4 : Same H (upd H3 q (.dK (kvR V.int (rowG d.evs fun _ => 0)))) := Same.trans s3 (same_upd nq)
    have q4 : (upd H3 q (.dK (kvR V.int (rowG d.evs fun _ => 0)))) q = some (.dK (kvR V.int (rowG d.evs (cntL [])))) := upd_same
    revert s4 q4
    generalize upd H3 q (.dK (kvR V.int (rowG d.evs fun _ => 0))) = H4
    intro s4 q4
    clear nq s3 hD3 hP
    refine gname (seq_st ?_)
    have hlen : ∀ h : Str → Int, (kvR V.int (rowG d.evs h)).length < sizeLine := fun h => by
      rw [kvR_len]
      unfold rowG
      rw [List.length_map]
      exact Nat.lt_of_le_of_lt hl8 (Nat.lt_of_lt_of_le (by omega) (sz 9))
    refine ⟨_, rfl, g, rfl, ⟨_, .inl (.inl (s4 _ _ hq))⟩, ?_⟩
    refine for_it (walk_list (K := K) (a := g) (xs := es.map V.str)) (fun i σ H' => Same H H' ∧ H' q = some (.dK (kvR V.int (rowG d.evs (cntL (es.take i))))) ∧ (∀ p x, p ++ [x] <+: es.take i → momB d (cntL (p ++ [x])) = true) ∧ ∃ v2, σ = [some (.ref m), some (.ref g), v2, some (.ref q)])
      ⟨s4, by rw [List.take_zero]; exact q4, fun p x h => by rw [List.take_zero] at h; have := List.prefix_nil.mp h; simp at this, _, rfl⟩ (fun i σ H' _ pv => .inl (.inl (pv.1 _ _ hq))) (fun i x σ H5' H5 hi pv yv => ?_) (fun σ H5 pv => ?_)
    · obtain ⟨rfl, hx⟩ := yv
      obtain ⟨s5, q5, r5, v2, rfl⟩ := pv
      obtain ⟨e, he, rfl⟩ := strs_get hx
      have hem := hin e (List.mem_of_getElem? he)
      have htk : es.take (i + 1) = es.take i ++ [e] := by rw [List.take_add_one, he]; rfl
      refine gname (seq_st ?_)
      refine ⟨_, rfl, _, rfl, q, _, rfl, dget_row q5 hem, .inl ⟨_, _, rfl, rfl, _, rfl, _, rfl, q, _, rfl, .inl ⟨_, .inr e, q5, rfl, hlen _, rfl⟩, ?_⟩⟩
      have s6 : Same H (upd H5 q (.dK (putK (kvR V.int (rowG d.evs (cntL (es.take i)))) (.inr e) (.int (cntL (es.take i) e + 1))))) := same_put nqH s5
      have q6 : (upd H5 q (.dK (putK (kvR V.int (rowG d.evs (cntL (es.take i)))) (.inr e) (.int (cntL (es.take i) e + 1))))) q = some (.dK (kvR V.int (rowG d.evs (cntL (es.take (i + 1)))))) := by
        rw [upd_same, rowG_put ok.evs.nd hem, htk]
        refine congrArg (fun r => some (HO.dK (kvR V.int r))) (rowG_congr fun l hl => ?_)
        rw [cntL_snoc]
        by_cases z : l = e
        · rw [if_pos z, if_pos z.symm, z]
        · rw [if_neg z, if_neg (fun y => z y.symm), Int.add_zero]
      revert s6 q6
      generalize upd H5 q (.dK (putK (kvR V.int (rowG d.evs (cntL (es.take i)))) (.inr e) (.int (cntL (es.take i) e + 1)))) = H6
      intro s6 q6
      refine ⟨_, rfl, _, rfl, m, q, d, _, rfl, hM.same s6, ok, q6, by rw [rowG_keys], fun H7 s7 => ?_⟩
      have hmb : momB d (valR (rowG d.evs (cntL (es.take (i + 1))))) = momB d (cntL (es.take (i + 1))) := momB_congr ok fun x hx => by unfold valR; rw [rowG_get hx]; rfl
      rw [hmb]
      have s67 := Same.trans s6 s7
      refine ⟨_, rfl, ?_⟩
      cases hy : momB d (cntL (es.take (i + 1))) with
      | false =>
        refine iteT ?_
        have : runB d es = false := by
          cases z : runB d es with
          | false => rfl
          | true =>
            have := runB_iff.mp z (es.take i) e (by rw [← htk]; exact List.take_prefix _ _)
            rw [← htk, hy] at this
            cases this
        have q1 := qq _ s67
        rw [this] at q1
        exact q1
      | true =>
        refine iteF ?_
        refine ⟨s67, s7 _ _ q6, fun p x hp => ?_, _, rfl⟩
        rw [htk] at hp
        rcases pre_snoc.mp hp with hp | hp
        · exact r5 p x hp
        · rw [hp, ← htk]; exact hy
    · obtain ⟨s5, q5, r5, v2, rfl⟩ := pv
      rw [List.length_map, List.take_length] at r5
      have : runB d es = true := runB_iff.mpr r5
      have q1 := qq _ s5
      rw [this] at q1
      exact q1

end
end Pk

set_option Elab.async false
set_option linter.all false
set_option maxRecDepth 100000
set_option maxHeartbeats 4000000
namespace Pk
open PySem PySem.Spec PyProof.Rows L2 Pu
abbrev s_law_lists : Stmt := topS 80
theorem sc_law_lists : FnScope ["_law_marks", "_law_most", "_law_found", "_law_level_rows", "_law_turn", "_law_longer", "_law_row", "_law_event"] ["_law_marks", "_law_most"] (defScope s_law_lists) := ⟨rfl, rfl, rfl, by decide +kernel, rfl, by decide +kernel, by decide +kernel⟩

section
variable {P : Program} {w : World} {K : PySem.W.Frag} {mg : Str → Option Value} {base : Heap}
/-! ### all lists of marks up to a length -/
def RowAt (H : Hp) (evs : List Str) (k : Nat) (g : Addr) : Prop := ∃ es : List Str, H g = some (.lst (es.map V.str)) ∧ (∀ e ∈ es, e ∈ evs) ∧ es.length ≤ k
theorem RowAt.same {H H' : Hp} {evs : List Str} {k : Nat} {g : Addr} (h : RowAt H evs k g) (s : Same H H') : RowAt H' evs k g := by
  obtain ⟨es, h1, h2⟩ := h
  exact ⟨es, s _ _ h1, h2⟩
theorem RowAt.up {H : Hp} {evs : List Str} {k k' : Nat} {g : Addr} (h : RowAt H evs k g) (l : k ≤ k') : RowAt H evs k' g := by
  obtain ⟨es, h1, h2, h3⟩ := h
  exact ⟨es, h1, h2, Nat.le_trans h3 l⟩
theorem RowAt.put {H : Hp} {evs : List Str} {k : Nat} {g p : Addr} {o : HO} (h : RowAt H evs k g) (n : g ≠ p) : RowAt (upd H p o) evs k g := by
  obtain ⟨es, h1, h2⟩ := h
  exact ⟨es, by rw [upd_ne n]; exact h1, h2⟩
def spLists : Sp := fun vs H Q _ => ∃ (m : Addr) (evs : List Str) (k : Nat), vs = [.ref m, .int k] ∧ H m = some (.lst (evs.map V.str)) ∧ evs.length ≤ 4 ∧ k ≤ 4 ∧
  ∀ (l : Addr) (gs : List Addr) H', Same H H' → H l = none → H' l = some (.lst (gs.map V.ref)) → (∀ g ∈ gs, RowAt H' evs k g) → Q (.ref l) H'
theorem ok_lists {f : Addr} {fd : FuncData} (F : Fun K "_law_lists" "_law_lists" s_law_lists f fd) (T : Txt mg) : FnOk P w K mg base CX0 1 f fd ["_law_marks", "_law_most"] spLists := by
  have nd := sc_law_lists.nd
  refine F.ok sc_law_lists (fun vs H Q E h => ?_) (fun cdv A outer s H vs Q E hr h => ?_)
  · obtain ⟨_, _, _, rfl, _⟩ := h
    rfl
  · obtain ⟨m, evs, k, rfl, hm, hl4, hk, qq⟩ := h
    have hu := hu_of hr
    refine ⟨_, (pss_cons (ps_par (i := 2) (j := 3) rfl nd rfl rfl (by decide) rfl rfl (pa_cons (pe_lst (pa_cons (pe_lst pa_nil) pa_nil)) (pa_cons (pe_lst (pa_cons (pe_lst pa_nil) pa_nil)) pa_nil)) (by rfl))
      (pss_cons (ps_for PassesOwn.never rfl (pi_range1 rfl T.m_range (pa_cons (pv 1) pa_nil)) (pg_name (i := 4) nd rfl (Or.inl rfl))
      (pss_cons (ps_set (i := 5) nd rfl (Or.inl rfl) (pe_lst pa_nil))
      (pss_cons (ps_for PassesOwn.never rfl (pi_list (pv 3)) (pg_name (i := 6) nd rfl (Or.inr rfl))
      (pss_one (ps_expr (pe_bm PySem.F.plainAttrs_list PySem.F.slot_list_extend PySem.F.type_list_extend mt_extend (pv 5) (pa_cons (pe_lc (own := [("_law_event", 7)]) (g := gName 7) (tt := tYes) rfl nd (pi_list (pv 0)) (blkOk_by (N := ["_law_marks", "_law_most", "_law_found", "_law_level_rows", "_law_turn", "_law_longer", "_law_row", "_law_event"]) (sc := defScope s_law_lists) (by decide +kernel)) (fun _ _ _ _ _ => pg_name (i := 7) nd rfl (Or.inl rfl)) (fun _ _ _ _ _ => pts_nil) (fun _ _ _ _ _ => (pe_op oAdd (pv 6) (pe_lst (pa_cons (pv 7) pa_nil))))) pa_nil)))))
      (pss_one (ps_par (i := 2) (j := 3) rfl nd rfl rfl (by decide) rfl rfl (pa_cons (pe_op oAdd (pv 2) (pv 5)) (pa_cons (pv 5) pa_nil)) (by rfl))))))
      (pss_one (ps_ret (pv 2))))), ?_⟩
    refine seq_st ?_
    refine ⟨sz 0, fun r1 n1 => ?_⟩
    have s0 := same_upd n1 (o := .lst [])
    have k1 : (upd H r1 (.lst [])) r1 = some (.lst (([] : List Str).map V.str)) := upd_same
    revert s0 k1
    generalize upd H r1 (.lst []) = H1
    intro s0 k1
    refine ⟨sz 1, fun F nF => ?_⟩
    have s1 := Same.trans s0 (same_upd nF (o := .lst [.ref r1]))
    have k1 := same_upd nF (o := .lst [.ref r1]) _ _ k1
    have kF : (upd H1 F (.lst [.ref r1])) F = some (.lst ([r1].map V.ref)) := upd_same
    have nFH := s0.free nF
    revert s1 k1 kF
    generalize upd H1 F (.lst [.ref r1]) = H2
    intro s1 k1 kF
    refine ⟨sz 0, fun r2 n2 => ?_⟩
    have s2 := Same.trans s1 (same_upd n2 (o := .lst []))
    have k1 := same_upd n2 (o := .lst []) _ _ k1
    have kF := same_upd n2 (o := .lst []) _ _ kF
    have k2 : (upd H2 r2 (.lst [])) r2 = some (.lst (([] : List Str).map V.str)) := upd_same
    revert s2 k1 kF k2
    generalize upd H2 r2 (.lst []) = H3
    intro s2 k1 kF k2
    refine ⟨sz 1, fun L nL => ⟨_, _, rfl, ?_⟩⟩
    have s3 := Same.trans s2 (same_upd nL (o := .lst [.ref r2]))
    have k1 := same_upd nL (o := .lst [.ref r2]) _ _ k1
    have kF := same_upd nL (o := .lst [.ref r2]) _ _ kF
    have k2 := same_upd nL (o := .lst [.ref r2]) _ _ k2
    have kL : (upd H3 L (.lst [.ref r2])) L = some (.lst ([r2].map V.ref)) := upd_same
    revert s3 k1 kF k2 kL
    generalize upd H3 L (.lst [.ref r2]) = H4
    intro s3 k1 kF k2 kL
    clear nL s2 n2 s1 nF s0 n1
    refine seq_st ?_
    refine ⟨_, rfl, k, rfl, by omega, by omega, ?_⟩
    have e0 : ∀ r, H4 r = some (.lst (([] : List Str).map V.str)) → RowAt H4 evs 0 r := fun r h => ⟨[], h, (fun _ h => nomatch h), Nat.le_refl _⟩
    refine for_range (fun i σ H' => Same H H' ∧ ∃ F L gs ls v4 v5 v6 v7, σ = [some (.ref m), some (.int k), some (.ref F), some (.ref L), v4, v5, v6, v7] ∧ H F = none ∧ H' F = some (.lst (gs.map V.ref)) ∧ H' L = some (.lst (ls.map V.ref)) ∧ (∀ g ∈ gs, RowAt H' evs i g) ∧ (∀ g ∈ ls, RowAt H' evs i g) ∧ gs.length ≤ 4 ^ (i + 1) ∧ ls.length ≤ 4 ^ i)
      ⟨s3, F, L, [r1], [r2], _, _, _, _, rfl, nFH, kF, kL, fun g hg => by rw [List.mem_singleton.mp hg]; exact e0 _ k1, fun g hg => by rw [List.mem_singleton.mp hg]; exact e0 _ k2, (by show 1 ≤ 4; decide), Nat.le_refl 1⟩ (fun i σ H5 hi pv => ?_) (fun σ H5 pv => ?_)
    · clear s3 k1 k2 kF kL e0 nFH
      obtain ⟨s5, F, L, gs, ls, v4, v5, v6, v7, rfl, nF, hF, hL, hgs, hls, hgl, hll⟩ := pv
      have hi4 : i < 4 := by omega
      have p256 : 4 ^ i ≤ 256 := Nat.pow_le_pow_right (by decide) (show i ≤ 4 by omega)
      have hp1 : 4 ^ (i + 1) = 4 ^ i * 4 := Nat.pow_succ ..
      have hp2 : 4 ^ (i + 1 + 1) = 4 ^ i * 4 * 4 := by rw [Nat.pow_succ, hp1]
      refine gname (seq_asg ?_)
      refine ⟨sz 0, fun X nX => ?_⟩
      have nXH := s5.free nX
      have s6 := same_upd nX (o := .lst [])
      have kX : (upd H5 X (.lst [])) X = some (.lst (([] : List Addr).map V.ref)) := upd_same
      revert s6 kX
      generalize upd H5 X (.lst []) = H6
      intro s6 kX
      refine gname (seq_st ?_)
      refine ⟨_, rfl, L, rfl, ⟨_, .inl (.inl (s6 _ _ hL))⟩, ?_⟩
      refine for_it (walk_list (K := K) (a := L) (xs := ls.map V.ref)) (fun j σ H' => Same H5 H' ∧ ∃ xs v6 v7, σ = [some (.ref m), some (.int k), some (.ref F), some (.ref L), some (.int (0 + (i : Nat))), some (.ref X), v6, v7] ∧ H' X = some (.lst (xs.map V.ref)) ∧ (∀ g ∈ xs, RowAt H' evs (i + 1) g ∧ g ≠ X) ∧ xs.length ≤ j * 4)
        ⟨s6, [], _, _, rfl, kX, (fun _ h => nomatch h), Nat.zero_le _⟩ (fun j σ H' _ pv => .inl (.inl (pv.1 _ _ hL))) (fun j x σ H7' H7 hj pv yv => ?_) (fun σ H7 pv => ?_)
      · obtain ⟨rfl, hx⟩ := yv
        obtain ⟨s7, xs, v6, v7, rfl, hX7, hxs, hxl⟩ := pv
        obtain ⟨g, hg, rfl⟩ := refs_get hx
        have hgm := List.mem_of_getElem? hg
        rw [List.length_map] at hj
        obtain ⟨es, he, hes, hel⟩ := (hls g hgm).same s7
        have hm7 := Same.trans s5 s7 _ _ hm
        refine ⟨_, rfl, .inl ⟨rfl, _, .inl (.inl hX7)⟩, ?_⟩
        refine ⟨_, rfl, m, rfl, ⟨_, .inl (.inl hm7)⟩, fun D nD => ?_⟩
        refine lc_it (walk_list (K := K) (a := m) (xs := evs.map V.str)) (fun t H' => Same H7 H' ∧ ∃ ys, H' D = some (.lst (ys.map V.ref)) ∧ ys.length = t ∧ ∀ g ∈ ys, RowAt H' evs (i + 1) g ∧ g ≠ D ∧ H7 g = none) ⟨same_upd nD, [], upd_same, rfl, fun _ h => nomatch h⟩ (fun t H' _ pv => .inl (.inl (pv.1 _ _ hm7))) (fun t x H8' H8 ht pv yv => ?_) (fun H8 pv => ?_)
        · obtain ⟨rfl, hx⟩ := yv
          obtain ⟨e, hev, rfl⟩ := strs_get hx
          have hem := List.mem_of_getElem? hev
          obtain ⟨s8, ys, hD8, hyl, hys⟩ := pv
          rw [List.length_map] at ht
          refine ⟨rfl, _, rfl, _, rfl, sz 1, fun q nq => ?_⟩
          have sq := same_upd nq (o := .lst [.str e])
          refine .inr (.inr ⟨g, q, _, _, rfl, rfl, sq _ _ (s8 _ _ he), upd_same, ?_, fun r nr => ?_⟩)
          · rw [List.length_map]
            exact Nat.le_trans (by show es.length + 1 ≤ 100; omega) (sz 100)
          have sr := Same.trans sq (same_upd nr (o := .lst (es.map V.str ++ [.str e])))
          have kr : (upd (upd H8 q (.lst [.str e])) r (.lst (es.map V.str ++ [.str e]))) r = some (.lst ((es ++ [e]).map V.str)) := by rw [upd_same, List.map_append]; rfl
          have nr8 := (same_upd nq (o := .lst [.str e])).free nr
          have rD : r ≠ D := fun z => by rw [z, hD8] at nr8; cases nr8
          refine ⟨_, sr _ _ hD8, ?_, same_put nD (Same.trans s8 sr), ys ++ [r], by rw [upd_same, List.map_append]; rfl, by rw [List.length_append, hyl]; rfl, fun g' hg' => ?_⟩
          · rw [List.length_map, hyl]
            exact Nat.lt_of_lt_of_le (by omega) (sz 100)
          · rcases List.mem_append.mp hg' with hg' | hg'
            · obtain ⟨y1, y2, y3⟩ := hys g' hg'
              exact ⟨(y1.same sr).put y2, y2, y3⟩
            · rw [List.mem_singleton.mp hg']
              refine ⟨⟨es ++ [e], by rw [upd_ne rD]; exact kr, fun q hq => ?_, ?_⟩, rD, s8.free nr8⟩
              · rcases List.mem_append.mp hq with hq | hq
                · exact hes q hq
                · exact List.mem_singleton.mp hq ▸ hem
              · rw [List.length_append, List.length_singleton]; omega
        · obtain ⟨s8, ys, hD8, hyl, hys⟩ := pv
          rw [List.length_map] at hyl
          refine ⟨X, D, _, _, rfl, rfl, s8 _ _ hX7, hD8, ?_, same_put nX (Same.trans s7 s8), xs ++ ys, _, _, rfl, by rw [upd_same, List.map_append], fun g' hg' => ?_, ?_⟩
          · rw [List.length_map, List.length_map]
            exact Nat.le_trans (by omega) (sz 2000)
          · rcases List.mem_append.mp hg' with hg' | hg'
            · obtain ⟨y1, y2⟩ := hxs g' hg'
              exact ⟨(y1.same s8).put y2, y2⟩
            · obtain ⟨y1, y2, y3⟩ := hys g' hg'
              have : g' ≠ X := fun z => by rw [z, hX7] at y3; cases y3
              exact ⟨y1.put this, this⟩
          · rw [List.length_append]; omega
      · obtain ⟨s7, xs, v6, v7, rfl, hX7, hxs, hxl⟩ := pv
        rw [List.length_map] at hxl
        refine ⟨_, rfl, _, rfl, .inr (.inr ⟨F, X, _, _, rfl, rfl, s7 _ _ hF, hX7, ?_, fun F2 nF2 => ⟨_, rfl, _, _, rfl, ?_⟩⟩)⟩
        · rw [List.length_map, List.length_map]
          exact Nat.le_trans (by omega) (sz 5000)
        have s8 := same_upd nF2 (o := .lst (gs.map V.ref ++ xs.map V.ref))
        have s58 := Same.trans s7 s8
        have S := Same.trans s5 s58
        refine ⟨S, F2, X, gs ++ xs, xs, _, _, _, _, rfl, (Same.trans s5 s7).free nF2, by rw [upd_same, List.map_append], s8 _ _ hX7, fun g hg => ?_, fun g hg => (hxs g hg).1.same s8, ?_, ?_⟩
        · rcases List.mem_append.mp hg with hg | hg
          · exact ((hgs g hg).same s58).up (Nat.le_succ _)
          · exact (hxs g hg).1.same s8
        · rw [List.length_append]; omega
        · omega
    · obtain ⟨s5, F, L, gs, ls, v4, v5, v6, v7, rfl, nF, hF, hL, hgs, hls, hgl, hll⟩ := pv
      exact ⟨_, rfl, qq F gs H5 s5 nF hF (by rw [Int.toNat_natCast] at hgs; exact hgs)⟩

end
end Pk

set_option Elab.async false
set_option linter.all false
set_option maxRecDepth 100000
set_option maxHeartbeats 4000000
namespace Pk
open PySem PySem.Spec PyProof.Rows L2 Pu
abbrev s_law_hidden : Stmt := topS 81
theorem sc_law_hidden : FnScope ["_law_model_here", "_law_states", "_law_hidden_here", "_law_found", "_law_waiting", "_law_counts", "_law_event", "_law_more"] ["_law_model_here", "_law_states", "_law_hidden_here"] (defScope s_law_hidden) := ⟨rfl, rfl, rfl, by decide +kernel, rfl, by decide +kernel, by decide +kernel⟩

section
variable {P : Program} {w : World} {K : PySem.W.Frag} {mg : Str → Option Value} {base : Heap}
/-! ### moments reached by hidden events -/
def allV : Nat → List (List Int)
  | 0 => [[]]
  | n + 1 => (allV n).flatMap fun v => (List.range 9).map fun i => ((i : Nat) : Int) :: v
theorem allV_len : ∀ n, (allV n).length = 9 ^ n
  | 0 => rfl
  | n + 1 => by
    show ((allV n).flatMap _).length = _
    rw [List.length_flatMap]
    have : (fun v : List Int => ((List.range 9).map fun i => ((i : Nat) : Int) :: v).length) = fun _ => 9 := funext fun v => by rw [List.length_map, List.length_range]
    rw [this, List.map_const', List.sum_replicate_nat, allV_len n, Nat.pow_succ]
theorem mem_allV : ∀ {v : List Int}, (∀ x ∈ v, 0 ≤ x ∧ x ≤ 8) → v ∈ allV v.length
  | [], _ => List.mem_singleton_self _
  | x :: r, h => by
    obtain ⟨h1, h2⟩ := h x (List.mem_cons_self ..)
    obtain ⟨i, rfl⟩ := Int.eq_ofNat_of_zero_le h1
    exact List.mem_flatMap.mpr ⟨r, mem_allV fun y hy => h y (List.mem_cons_of_mem _ hy), List.mem_map.mpr ⟨i, List.mem_range.mpr (by omega), rfl⟩⟩
abbrev Ct := Str → Int
def vecs (evs : List Str) (cs : List Ct) : List (List Int) := cs.map fun g => evs.map g
def StAt (H : Hp) (evs : List Str) (as : List Addr) (cs : List Ct) : Prop := Paired (fun a g => H a = some (.dK (kvR V.int (rowG evs g)))) as cs
theorem StAt.same {H H' : Hp} {evs : List Str} {as : List Addr} {cs : List Ct} (h : StAt H evs as cs) (s : Same H H') : StAt H' evs as cs := Paired.mapP h fun _ _ x => s _ _ x
/-- counts that are small and all different -/
structure Sm8 (evs : List Str) (cs : List Ct) : Prop where
  nd : (vecs evs cs).Nodup
  bd : ∀ g ∈ cs, ∀ e ∈ evs, 0 ≤ g e ∧ g e ≤ 8
theorem Sm8.len {evs : List Str} {cs : List Ct} (h : Sm8 evs cs) (hl : evs.length ≤ 4) : cs.length ≤ 6561 := by
  have h1 := List.Nodup.length_le_of_subset h.nd (l₂ := allV evs.length) fun v hv => by
    obtain ⟨g, hg, rfl⟩ := List.mem_map.mp hv
    have := mem_allV (v := evs.map g) fun x hx => by
      obtain ⟨e, he, rfl⟩ := List.mem_map.mp hx
      exact h.bd g hg e he
    rw [List.length_map] at this
    exact this
  rw [allV_len] at h1
  unfold vecs at h1
  rw [List.length_map] at h1
  exact Nat.le_trans h1 (Nat.pow_le_pow_right (n := 9) (by decide) hl)
def bumpC (g : Ct) (e : Str) : Ct := fun x => if x = e then g x + 1 else g x
theorem bump_at (c : Ct) (e : Str) : bumpC c e e = c e + 1 := if_pos rfl
theorem bump_ne (c : Ct) {e x : Str} (h : x ≠ e) : bumpC c e x = c x := if_neg h
theorem sameG {evs : List Str} {g g' : Ct} (nd : evs.Nodup) : sameR (rowG evs g) (rowG evs g') = decide (evs.map g = evs.map g') := by
  rw [Bool.eq_iff_iff, sameR_iff (by rw [rowG_keys]; exact nd) (by rw [rowG_keys]; exact nd), decide_eq_true_iff]
  constructor
  · intro h
    refine List.map_congr_left fun e he => ?_
    have := h e
    rw [rowG_get he, rowG_get he] at this
    exact Option.some.inj this
  · intro h l
    by_cases hl : l ∈ evs
    · rw [rowG_get hl, rowG_get hl, List.map_inj_left.mp h l hl]
    · rw [getR_none (by rw [rowG_keys]; exact hl), getR_none (by rw [rowG_keys]; exact hl)]
theorem states_at {H : Hp} {evs : List Str} {as : List Addr} {cs : List Ct} {r : Addr} {g : Ct} (nd : evs.Nodup) (h : StAt H evs as cs) (hr : H r = some (.dK (kvR V.int (rowG evs g)))) {j : Nat} {z : V} {b : Bool} (hz : (as.map V.ref)[j]? = some z) (hb : (cs.map fun g' => decide (evs.map g' = evs.map g))[j]? = some b) : EqB K H 2 z (.ref r) b := by
  obtain ⟨a, ha, rfl⟩ := refs_get hz
  obtain ⟨g', hg', h1⟩ := L2.paired_get h ha
  rw [List.getElem?_map, hg'] at hb
  cases hb
  show EqB K H 2 (.ref a) (.ref r) (decide (evs.map g' = evs.map g))
  rw [← sameG nd]
  exact eqb_obj (rows_eqB (by rw [rowG_keys]; exact nd) h1 hr)
theorem any_vecs {evs : List Str} {cs : List Ct} {v : List Int} : (cs.map fun g' => decide (evs.map g' = v)).any id = decide (v ∈ vecs evs cs) := by
  rw [Bool.eq_iff_iff, List.any_eq_true, decide_eq_true_iff]
  unfold vecs
  rw [List.mem_map]
  constructor
  · rintro ⟨b, hb, hx⟩
    obtain ⟨g, hg, rfl⟩ := List.mem_map.mp hb
    exact ⟨g, hg, of_decide_eq_true hx⟩
  · rintro ⟨g, hg, hx⟩
    exact ⟨true, List.mem_map.mpr ⟨g, hg, decide_eq_true hx⟩, rfl⟩
/-- what a search from cs over hidden events tells -/
structure HidR (d : PlanD) (hs : List Str) (cs cs' : List Ct) : Prop where
  sm : Sm8 d.evs cs'
  inc : ∀ g ∈ cs, g ∈ cs'
  snd : ∀ g ∈ cs', g ∈ cs ∨ (momB d g = true ∧ ∃ g0 ∈ cs, ∀ e ∈ d.evs, e ∉ hs → g e = g0 e)
  cl : ∀ g ∈ cs', ∀ e ∈ hs, g e < 8 → momB d (bumpC g e) = true → d.evs.map (bumpC g e) ∈ vecs d.evs cs'
theorem StAt.put {H : Hp} {evs : List Str} {as : List Addr} {cs : List Ct} {a : Addr} {xs : List V} {o : HO} (h : StAt H evs as cs) (ha : H a = some (.lst xs)) : StAt (upd H a o) evs as cs := Paired.mapP h fun _ _ x => by
  rw [upd_ne (ne_of x ha (fun z => nomatch z))]
  exact x
theorem paired_unsnoc {α β : Type} {R : α → β → Prop} : ∀ {xs : List α} {x : α} {ys : List β}, Paired R (xs ++ [x]) ys → ∃ ys0 y, ys = ys0 ++ [y] ∧ Paired R xs ys0 ∧ R x y
  | [], x, ys, h => by
    cases h with
    | cons r t => cases t; exact ⟨[], _, rfl, .nil, r⟩
  | z :: xs, x, ys, h => by
    cases h with
    | cons r t =>
      obtain ⟨ys0, y, rfl, h1, h2⟩ := paired_unsnoc t
      exact ⟨_ :: ys0, y, rfl, .cons r h1, h2⟩
/-- the search under way: found fcs, of which wcs wait -/
structure HidI (d : PlanD) (hs : List Str) (cs fcs wcs : List Ct) : Prop where
  sm : Sm8 d.evs fcs
  inc : ∀ g ∈ cs, g ∈ fcs
  snd : ∀ g ∈ fcs, g ∈ cs ∨ (momB d g = true ∧ ∃ g0 ∈ cs, ∀ e ∈ d.evs, e ∉ hs → g e = g0 e)
  wt : ∀ g ∈ wcs, g ∈ fcs
  cl : ∀ g ∈ fcs, g ∈ wcs ∨ ∀ e ∈ hs, g e < 8 → momB d (bumpC g e) = true → d.evs.map (bumpC g e) ∈ vecs d.evs fcs
/-- while the hidden events behind one of the found are gone through -/
structure HidJ (d : PlanD) (hs : List Str) (cs : List Ct) (g : Ct) (t : Nat) (fcs wcs : List Ct) : Prop where
  sm : Sm8 d.evs fcs
  inc : ∀ g ∈ cs, g ∈ fcs
  snd : ∀ g ∈ fcs, g ∈ cs ∨ (momB d g = true ∧ ∃ g0 ∈ cs, ∀ e ∈ d.evs, e ∉ hs → g e = g0 e)
  wt : ∀ g ∈ wcs, g ∈ fcs
  at' : g ∈ fcs
  cl : ∀ x ∈ fcs, x ∈ wcs ∨ x = g ∨ ∀ e ∈ hs, x e < 8 → momB d (bumpC x e) = true → d.evs.map (bumpC x e) ∈ vecs d.evs fcs
  up : ∀ e ∈ hs.take t, g e < 8 → momB d (bumpC g e) = true → d.evs.map (bumpC g e) ∈ vecs d.evs fcs
theorem HidJ.skip {d : PlanD} {hs : List Str} {cs fcs wcs : List Ct} {g : Ct} {t : Nat} {e : Str} (h : HidJ d hs cs g t fcs wcs) (he : hs[t]? = some e) (no : g e < 8 → momB d (bumpC g e) = true → d.evs.map (bumpC g e) ∈ vecs d.evs fcs) : HidJ d hs cs g (t + 1) fcs wcs :=
  ⟨h.sm, h.inc, h.snd, h.wt, h.at', h.cl, fun x hx => by
    rw [List.take_add_one, he] at hx
    rcases List.mem_append.mp hx with hx | hx
    · exact h.up x hx
    · have : x = e := List.mem_singleton.mp hx
      rw [this]; exact no⟩
theorem HidJ.add {d : PlanD} {hs : List Str} {cs fcs wcs : List Ct} {g : Ct} {t : Nat} {e : Str} (h : HidJ d hs cs g t fcs wcs) (he : hs[t]? = some e) (h8 : g e < 8) (hm : momB d (bumpC g e) = true) (hn : d.evs.map (bumpC g e) ∉ vecs d.evs fcs) : HidJ d hs cs g (t + 1) (fcs ++ [bumpC g e]) (wcs ++ [bumpC g e]) := by
  have hem := List.mem_of_getElem? he
  have mono : ∀ v, v ∈ vecs d.evs fcs → v ∈ vecs d.evs (fcs ++ [bumpC g e]) := fun v hv => by
    unfold vecs at *
    rw [List.map_append]
    exact List.mem_append_left _ hv
  have new : d.evs.map (bumpC g e) ∈ vecs d.evs (fcs ++ [bumpC g e]) := by
    unfold vecs
    rw [List.map_append]
    exact List.mem_append_right _ (List.mem_singleton_self _)
  refine ⟨⟨?_, fun x hx => ?_⟩, fun x hx => List.mem_append_left _ (h.inc x hx), fun x hx => ?_, fun x hx => ?_, List.mem_append_left _ h.at', fun x hx => ?_, fun x hx => ?_⟩
  · have := h.sm.nd
    unfold vecs at *
    rw [List.map_append]
    refine List.nodup_append.mpr ⟨this, List.pairwise_singleton _ _, fun a ha b hb z => ?_⟩
    rw [List.mem_singleton.mp hb] at z
    rw [z] at ha
    exact hn ha
  · rcases List.mem_append.mp hx with hx | hx
    · exact h.sm.bd x hx
    · rw [List.mem_singleton.mp hx]
      intro y hy
      have := h.sm.bd g h.at' y hy
      unfold bumpC
      by_cases z : y = e
      · rw [if_pos z]
        rw [z] at this ⊢
        omega
      · rw [if_neg z]
        exact this
  · rcases List.mem_append.mp hx with hx | hx
    · exact h.snd x hx
    · rw [List.mem_singleton.mp hx]
      refine .inr ⟨hm, ?_⟩
      have key : ∀ g0 : Ct, (∀ y ∈ d.evs, y ∉ hs → g y = g0 y) → ∀ y ∈ d.evs, y ∉ hs → bumpC g e y = g0 y := fun g0 hg y hy hn => by
        unfold bumpC
        rw [if_neg (fun z : y = e => hn (by rw [z]; exact hem))]
        exact hg y hy hn
      rcases h.snd g h.at' with hg | ⟨_, g0, h0, hg⟩
      · exact ⟨g, hg, key g fun _ _ _ => rfl⟩
      · exact ⟨g0, h0, key g0 hg⟩
  · rcases List.mem_append.mp hx with hx | hx
    · exact List.mem_append_left _ (h.wt x hx)
    · exact List.mem_append_right _ hx
  · rcases List.mem_append.mp hx with hx | hx
    · rcases h.cl x hx with y | y | y
      · exact .inl (List.mem_append_left _ y)
      · exact .inr (.inl y)
      · exact .inr (.inr fun e he h1 h2 => mono _ (y e he h1 h2))
    · exact .inl (List.mem_append_right _ hx)
  · rw [List.take_add_one, he] at hx
    rcases List.mem_append.mp hx with hx | hx
    · exact fun h1 h2 => mono _ (h.up x hx h1 h2)
    · have : x = e := List.mem_singleton.mp hx
      rw [this]
      exact fun _ _ => new
theorem HidI.start {d : PlanD} {hs : List Str} {cs : List Ct} (h : Sm8 d.evs cs) : HidI d hs cs cs cs := ⟨h, fun _ h => h, fun _ h => .inl h, fun _ h => h, fun _ h => .inl h⟩
theorem HidI.pop {d : PlanD} {hs : List Str} {cs fcs wcs : List Ct} {g : Ct} (h : HidI d hs cs fcs (wcs ++ [g])) : HidJ d hs cs g 0 fcs wcs :=
  ⟨h.sm, h.inc, h.snd, fun x hx => h.wt x (List.mem_append_left _ hx), h.wt g (List.mem_append_right _ (List.mem_singleton_self _)), fun x hx => by
    rcases h.cl x hx with y | y
    · rcases List.mem_append.mp y with y | y
      · exact .inl y
      · exact .inr (.inl (List.mem_singleton.mp y))
    · exact .inr (.inr y), fun x hx => by rw [List.take_zero] at hx; cases hx⟩
theorem HidJ.all {d : PlanD} {hs : List Str} {cs fcs wcs : List Ct} {g : Ct} (h : HidJ d hs cs g hs.length fcs wcs) : HidI d hs cs fcs wcs :=
  ⟨h.sm, h.inc, h.snd, h.wt, fun x hx => by
    rcases h.cl x hx with y | y | y
    · exact .inl y
    · rw [y]
      have := h.up
      rw [List.take_length] at this
      exact .inr this
    · exact .inr y⟩
theorem HidI.fin {d : PlanD} {hs : List Str} {cs fcs : List Ct} (h : HidI d hs cs fcs []) : HidR d hs cs fcs :=
  ⟨h.sm, h.inc, h.snd, fun g hg => (h.cl g hg).resolve_left (fun z => nomatch z)⟩
def spHidden : Sp := fun vs H Q _ => ∃ (m s h : Addr) (d : PlanD) (as : List Addr) (cs : List Ct) (hs : List Str), vs = [.ref m, .ref s, .ref h] ∧ MdAt H m d ∧ PlanOk d ∧ d.evs.length ≤ 4 ∧ H s = some (.lst (as.map V.ref)) ∧ StAt H d.evs as cs ∧ Sm8 d.evs cs ∧ H h = some (.lst (hs.map V.str)) ∧ (∀ e ∈ hs, e ∈ d.evs) ∧
  ∀ (l : Addr) (as' : List Addr) (cs' : List Ct) H', Same H H' → H l = none → H' l = some (.lst (as'.map V.ref)) → StAt H' d.evs as' cs' → HidR d hs cs cs' → Q (.ref l) H'
theorem ok_hidden {f : Addr} {fd : FuncData} (F : Fun K "_law_hidden" "_law_hidden" s_law_hidden f fd) (T : Txt mg) (claw_is_moment : Cal P w K mg base 2 "_law_is_moment" spIsMoment []) : FnOk P w K mg base CX0 3 f fd ["_law_model_here", "_law_states", "_law_hidden_here"] spHidden := by
  have nd := sc_law_hidden.nd
  refine F.ok sc_law_hidden (fun vs H Q E h => ?_) (fun cdv A outer s H vs Q E hr h => ?_)
  · obtain ⟨_, _, _, _, _, _, _, rfl, _⟩ := h
    rfl
  · obtain ⟨m, s, h, d, as, cs, hs, rfl, hM, ok, hl4, hS, hSt, hSm, hH, hhs, qq⟩ := h
    have hu := hu_of hr
    refine ⟨_, (pss_cons (ps_par (i := 3) (j := 4) rfl nd rfl rfl (by decide) rfl rfl (pa_cons (pe_callTy (lstOf K) (by rfl) T.m_list PyProof.Rows.boot_list (pa_cons (pv 1) pa_nil)) (pa_cons (pe_callTy (lstOf K) (by rfl) T.m_list PyProof.Rows.boot_list (pa_cons (pv 1) pa_nil)) pa_nil)) (by rfl))
      (pss_cons (ps_while PassesOwn.never (pt_cmpR (op_neB K hr) (pv 4) (pe_lst pa_nil) (by rfl))
      (pss_cons (ps_set (i := 5) nd rfl (Or.inl rfl) (pe_bm0 PySem.F.plainAttrs_list PySem.F.slot_list_pop PySem.F.type_list_pop mt_pop (pv 4)))
      (pss_one (ps_for PassesOwn.never rfl (pi_list (pv 2)) (pg_name (i := 6) nd rfl (Or.inl rfl))
      (pss_cons (ps_set (i := 7) nd rfl (Or.inl rfl) (pe_callTy call_dictD (by rfl) T.m_dict PyProof.Rows.boot_dict (pa_cons (pv 5) pa_nil)))
      (pss_cons (ps_dput hu (pv 7) (pv 6) (pe_op oAdd (pe_dget hu (pv 7) (pv 6) (fun _ _ => rfl)) pe_int) rfl)
      (pss_one (ps_if (PW.pt (pw_and (pt_cmpR op_lt (pe_dget hu (pv 7) (pv 6) (fun _ _ => rfl)) pe_int (by rfl)) (pw_and (pt_cmpR (op_notInB K hr) (pv 7) (pv 3) (by rfl)) (pw_and1 (pt_val (pe_c claw_is_moment hr (by decide) rfl (pa_cons (pv 0) (pa_cons (pv 7) pa_nil))))))))
      (pss_cons (ps_expr (pe_bm PySem.F.plainAttrs_list PySem.F.slot_list_append PySem.F.type_list_append mt_append (pv 3) (pa_cons (pv 7) pa_nil)))
      (pss_one (ps_expr (pe_bm PySem.F.plainAttrs_list PySem.F.slot_list_append PySem.F.type_list_append mt_append (pv 4) (pa_cons (pv 7) pa_nil))))) pss_nil))))))))
      (pss_one (ps_ret (pv 3))))), ?_⟩
    refine seq_st ?_
    refine ⟨_, rfl, s, _, rfl, .inl (.inl (.inl hS)), fun F nF => ?_⟩
    have s0 := same_upd nF (o := .lst (as.map V.ref))
    have kF : (upd H F (.lst (as.map V.ref))) F = some (.lst (as.map V.ref)) := upd_same
    revert s0 kF
    generalize upd H F (.lst (as.map V.ref)) = H1
    intro s0 kF
    refine ⟨_, rfl, s, _, rfl, .inl (.inl (.inl (s0 _ _ hS))), fun W nW => ⟨_, _, rfl, ?_⟩⟩
    have nWH := s0.free nW
    have hFW : F ≠ W := fun z => by rw [← z, kF] at nW; cases nW
    have s1 := Same.trans s0 (same_upd nW (o := .lst (as.map V.ref)))
    have kF := same_upd nW (o := .lst (as.map V.ref)) _ _ kF
    have kW : (upd H1 W (.lst (as.map V.ref))) W = some (.lst (as.map V.ref)) := upd_same
    revert s1 kF kW
    generalize upd H1 W (.lst (as.map V.ref)) = H2
    intro s1 kF kW
    clear nW s0
    have hlen : ∀ h : Ct, (kvR V.int (rowG d.evs h)).length < sizeLine := fun h => by
      rw [kvR_len]
      unfold rowG
      rw [List.length_map]
      exact Nat.lt_of_le_of_lt hl4 (Nat.lt_of_lt_of_le (by omega) (sz 9))
    refine seq_st ?_
    have hcl := hSm.len hl4
    refine ⟨fun n σ H' => ∃ fs fcs ws wcs v5 v6 v7, σ = [some (.ref m), some (.ref s), some (.ref h), some (.ref F), some (.ref W), v5, v6, v7] ∧ n = 2 * (6561 - fcs.length) + wcs.length ∧ n ≤ 13122 ∧ Same H H' ∧ H' F = some (.lst (fs.map V.ref)) ∧ StAt H' d.evs fs fcs ∧ H' W = some (.lst (ws.map V.ref)) ∧ StAt H' d.evs ws wcs ∧ HidI d hs cs fcs wcs,
      ⟨_, as, cs, as, cs, _, _, _, rfl, rfl, by omega, s1, kF, hSt.same s1, kW, hSt.same s1, .start hSm⟩, ?_⟩
    clear s1 kF kW
    rintro n σ H3 ⟨fs, fcs, ws, wcs, v5, v6, v7, rfl, rfl, hnn, s3, kF, hF, kW, hW, hI⟩
    have hwl : ws.length = wcs.length := Paired.length hW
    refine ⟨_, rfl, sz 0, fun L nL => ?_⟩
    have sL := same_upd nL (o := .lst [])
    have kL : (upd H3 L (.lst [])) L = some (.lst []) := upd_same
    have s4 := Same.trans s3 sL
    have kF := sL _ _ kF
    have kW := sL _ _ kW
    have hF := hF.same sL
    have hW := hW.same sL
    revert kL s4 kF kW hF hW
    generalize upd H3 L (.lst []) = H4
    intro kL s4 kF kW hF hW
    clear sL nL s3
    refine ⟨1, _, by decide, empV_eq kW kL, _, rfl, ?_⟩
    rcases List.eq_nil_or_concat ws with rfl | ⟨ws0, a, rfl⟩
    · refine iteF ?_
      cases hW
      exact ⟨_, rfl, qq F fs fcs H4 s4 nF kF hF hI.fin⟩
    · rw [List.concat_eq_append] at kW hW hwl
      rw [List.concat_eq_append]
      have hne : (if true = true then !decide (((ws0 ++ [a]).map V.ref).length = 0) else decide (((ws0 ++ [a]).map V.ref).length = 0)) = true := by
        rw [if_pos rfl, List.length_map, List.length_append, List.length_singleton]
        simp
      refine iteY hne ?_
      obtain ⟨wcs0, g, rfl, hW0, hg⟩ := paired_unsnoc hW
      refine ⟨_, fun _ _ h => h, ?_⟩
      refine seq_asg ?_
      refine ⟨_, rfl, .inl ⟨rfl, _, .inl (.inl kW)⟩, W, _, .ref a, rfl, rfl, kW, by rw [List.map_append, List.length_append]; simp, ?_⟩
      have hdl : ((ws0 ++ [a]).map V.ref).dropLast = ws0.map V.ref := by rw [List.map_append]; exact List.dropLast_concat
      rw [hdl]
      have s5 := same_put (o := .lst (ws0.map V.ref)) nWH s4
      have kF := (upd_ne hFW (o := HO.lst (ws0.map V.ref)) (H := H4)).trans kF
      have hF := hF.put (o := .lst (ws0.map V.ref)) kW
      have hW0 : StAt _ _ _ _ := StAt.put (o := .lst (ws0.map V.ref)) hW0 kW
      have hg : (upd H4 W (.lst (ws0.map V.ref))) a = some (.dK (kvR V.int (rowG d.evs g))) := (upd_ne (ne_of hg kW (fun z => nomatch z)) (o := HO.lst (ws0.map V.ref)) (H := H4)).trans hg
      have kW : (upd H4 W (.lst (ws0.map V.ref))) W = some (.lst (ws0.map V.ref)) := upd_same
      revert s5 kF hF hW0 hg kW
      generalize upd H4 W (.lst (ws0.map V.ref)) = H5
      intro s5 kF hF hW0 hg kW
      clear hW s4 kL
      refine gname ?_
      refine ⟨_, rfl, h, rfl, ⟨_, .inl (.inl (s5 _ _ hH))⟩, ?_⟩
      refine for_it (walk_list (K := K) (a := h) (xs := hs.map V.str)) (fun t σ H' => Same H H' ∧ ∃ fs2 fcs2 ws2 wcs2 v6 v7, σ = [some (.ref m), some (.ref s), some (.ref h), some (.ref F), some (.ref W), some (.ref a), v6, v7] ∧ H' F = some (.lst (fs2.map V.ref)) ∧ StAt H' d.evs fs2 fcs2 ∧ H' W = some (.lst (ws2.map V.ref)) ∧ StAt H' d.evs ws2 wcs2 ∧ H' a = some (.dK (kvR V.int (rowG d.evs g))) ∧ HidJ d hs cs g t fcs2 wcs2 ∧ 2 * (6561 - fcs2.length) + wcs2.length < 2 * (6561 - fcs.length) + (wcs0 ++ [g]).length)
        ⟨s5, _, fcs, _, wcs0, _, _, rfl, kF, hF, kW, hW0, hg, hI.pop, by rw [List.length_append, List.length_singleton]; omega⟩ (fun t σ H' _ pv => .inl (.inl (pv.1 _ _ hH))) (fun t x σ H6' H6 ht pv yv => ?_) (fun σ H6 pv => ?_)
      · obtain ⟨rfl, hx⟩ := yv
        obtain ⟨s6, fs2, fcs2, ws2, wcs2, v6, v7, rfl, hF2, hfs2, hW2, hws2, ha2, hJ, hlt⟩ := pv
        obtain ⟨e, he, rfl⟩ := strs_get hx
        have hem := hhs e (List.mem_of_getElem? he)
        refine gname (seq_asg ?_)
        refine ⟨_, rfl, a, _, rfl, .inl ha2, fun r nr => ?_⟩
        refine gname (seq_st ?_)
        refine ⟨_, rfl, _, rfl, r, _, rfl, dget_row upd_same hem, .inl ⟨_, _, rfl, rfl, _, rfl, _, rfl, r, _, rfl, .inl ⟨_, .inr e, upd_same, rfl, hlen _, rfl⟩, ?_⟩⟩
        have sr : Same H6 (upd (upd H6 r (.dK (kvR V.int (rowG d.evs g)))) r (.dK (putK (kvR V.int (rowG d.evs g)) (.inr e) (.int (g e + 1))))) := same_put nr (same_upd nr)
        have s8 := Same.trans s6 sr
        have hF2 := sr _ _ hF2
        have hfs2 := hfs2.same sr
        have hW2 := sr _ _ hW2
        have hws2 := hws2.same sr
        have ha2 := sr _ _ ha2
        have r8 : (upd (upd H6 r (.dK (kvR V.int (rowG d.evs g)))) r (.dK (putK (kvR V.int (rowG d.evs g)) (.inr e) (.int (g e + 1))))) r = some (.dK (kvR V.int (rowG d.evs (bumpC g e)))) := by
          rw [upd_same, rowG_put ok.evs.nd hem]
          refine congrArg (fun r => some (HO.dK (kvR V.int r))) (rowG_congr fun l hl => ?_)
          unfold bumpC
          by_cases z : l = e
          · rw [if_pos z, if_pos z, z]
          · rw [if_neg z, if_neg z]
        revert s8 hF2 hfs2 hW2 hws2 ha2 r8
        generalize upd (upd H6 r (.dK (kvR V.int (rowG d.evs g)))) r (.dK (putK (kvR V.int (rowG d.evs g)) (.inr e) (.int (g e + 1)))) = H8
        intro s8 hF2 hfs2 hW2 hws2 ha2 r8
        clear sr nr s6
        refine ⟨_, rfl, _, rfl, r, _, rfl, dget_row r8 hem, _, _, rfl, rfl, _, rfl, ?_⟩
        refine ite2 (fun h9 => ?_) (fun h9 => iteF ?_)
        · have h9 := of_decide_eq_true h9
          rw [bump_at] at h9
          refine ⟨_, rfl, _, rfl, F, fs2.map V.ref, 2, fcs2.map fun g' => decide (d.evs.map g' = d.evs.map (bumpC g e)), rfl, .inl (.inl hF2), by decide, ?_, fun j z b hz hb => states_at ok.evs.nd hfs2 r8 hz hb, _, rfl, ?_⟩
          · rw [List.length_map, List.length_map, Paired.length hfs2]
          have key : (if true = true then !(fcs2.map fun g' => decide (d.evs.map g' = d.evs.map (bumpC g e))).any id else (fcs2.map fun g' => decide (d.evs.map g' = d.evs.map (bumpC g e))).any id) = !decide (d.evs.map (bumpC g e) ∈ vecs d.evs fcs2) := by rw [if_pos rfl, any_vecs]
          rw [key]
          refine ite2 (fun hn => ?_) (fun hn => iteF ?_)
          · rw [Bool.not_eq_true', decide_eq_false_iff_not] at hn
            refine ⟨_, rfl, _, rfl, m, r, d, _, rfl, hM.same s8, ok, r8, by rw [rowG_keys], fun H9 s9 => ⟨_, rfl, ?_⟩⟩
            have hmb : momB d (valR (rowG d.evs (bumpC g e))) = momB d (bumpC g e) := momB_congr ok fun x hx => by unfold valR; rw [rowG_get hx]; rfl
            rw [hmb]
            have hF9 := s9 _ _ hF2
            have hW9 := s9 _ _ hW2
            refine ite2 (fun hy => ?_) (fun hy => ?_)
            · have hJ2 := hJ.add he (by omega) hy hn
              have hl2 := hJ2.sm.len hl4
              rw [List.length_append, List.length_singleton] at hl2
              have hfl := Paired.length hfs2
              have hwl2 := Paired.length hws2
              have hrF : r ≠ F := fun z => by rw [z, hF2] at r8; cases r8
              have hrW : r ≠ W := fun z => by rw [z, hW2] at r8; cases r8
              refine seq_st ?_
              refine ⟨_, rfl, .inl ⟨rfl, _, .inl (.inl hF9)⟩, _, rfl, F, _, _, rfl, rfl, hF9, ?_, ?_⟩
              · rw [List.length_map]
                exact Nat.lt_of_lt_of_le (by omega) (sz 20000)
              have hWA : (upd H9 F (.lst (fs2.map V.ref ++ [.ref r]))) W = some (.lst (ws2.map V.ref)) := (upd_ne hFW.symm).trans hW9
              refine ⟨_, rfl, .inl ⟨rfl, _, .inl (.inl hWA)⟩, _, rfl, W, _, _, rfl, rfl, hWA, ?_, ?_⟩
              · rw [List.length_map]
                exact Nat.lt_of_lt_of_le (by omega) (sz 20000)
              have kp : ∀ {x : Addr} {kvs}, H8 x = some (.dK kvs) → (upd (upd H9 F (.lst (fs2.map V.ref ++ [.ref r]))) W (.lst (ws2.map V.ref ++ [.ref r]))) x = some (.dK kvs) := fun {x kvs} hx => by
                have hx := s9 _ _ hx
                rw [upd_ne (ne_of hx hW9 (fun z => nomatch z)), upd_ne (ne_of hx hF9 (fun z => nomatch z))]
                exact hx
              refine ⟨same_put nWH (same_put nF (Same.trans s8 s9)), fs2 ++ [r], _, ws2 ++ [r], _, _, _, rfl, ?_, paired_snoc (Paired.mapP hfs2 fun _ _ x => kp x) (kp r8), ?_, paired_snoc (Paired.mapP hws2 fun _ _ x => kp x) (kp r8), kp ha2, hJ2, ?_⟩
              · rw [upd_ne hFW, upd_same, List.map_append]
                rfl
              · rw [upd_same, List.map_append]
                rfl
              · rw [List.length_append, List.length_append]
                show 2 * (6561 - (fcs2.length + 1)) + (wcs2.length + 1) < _
                omega
            · exact ⟨Same.trans s8 s9, fs2, fcs2, ws2, wcs2, _, _, rfl, hF9, hfs2.same s9, hW9, hws2.same s9, s9 _ _ ha2, hJ.skip he (fun _ h => absurd h hy), hlt⟩
          · have hn : d.evs.map (bumpC g e) ∈ vecs d.evs fcs2 := Classical.byContradiction fun z => hn (by rw [decide_eq_false z]; rfl)
            exact ⟨s8, fs2, fcs2, ws2, wcs2, _, _, rfl, hF2, hfs2, hW2, hws2, ha2, hJ.skip he (fun _ _ => hn), hlt⟩
        · have h9 : ¬ bumpC g e e < 9 := fun z => h9 (decide_eq_true z)
          rw [bump_at] at h9
          exact ⟨s8, fs2, fcs2, ws2, wcs2, _, _, rfl, hF2, hfs2, hW2, hws2, ha2, hJ.skip he (fun h _ => absurd h (by omega)), hlt⟩
      · rw [List.length_map] at pv
        obtain ⟨s6, fs2, fcs2, ws2, wcs2, v6, v7, rfl, hF2, hfs2, hW2, hws2, _, hJ, hlt⟩ := pv
        exact ⟨_, hlt, fs2, fcs2, ws2, wcs2, _, _, _, rfl, rfl, by omega, s6, hF2, hfs2, hW2, hws2, hJ.all⟩

end
end Pk

set_option Elab.async false
set_option linter.all false
set_option maxRecDepth 100000
set_option maxHeartbeats 4000000
namespace Pk
open PySem PySem.Spec PyProof.Rows L2 Pu
section
/-! ### least moments: they are moments, and none lies below them -/
theorem far_self {d : PlanD} (ok : PlanOk d) {f : Str} (hf : f ∈ ("" : Str) :: d.evs) : getR (far d f) f = some 0 :=
  (far_dist ok hf f 0).mpr ⟨.nil, fun _ hw => hw.nn (law_nn ok)⟩
theorem far_nn {d : PlanD} (ok : PlanOk d) {f : Str} (hf : f ∈ ("" : Str) :: d.evs) {l : Str} {v : Int} (h : getR (far d f) l = some v) : 0 ≤ v := ((far_dist ok hf l v).mp h).1.nn (law_nn ok)
theorem far_row {d : PlanD} (ok : PlanOk d) {f k l : Str} {a y : Int} (hr : (f, k, a) ∈ lawRows d) (h : getR (far d k) l = some y) : ∃ x, getR (far d f) l = some x ∧ x ≤ a + y := by
  have hin := lawRows_in ok _ hr
  have hw := (Wk.one (R := RowL (lawRows d)) hr).app ((far_dist ok hin.2.1 l y).mp h).1
  obtain ⟨x, hx⟩ := Option.isSome_iff_exists.mp ((far_some ok hin.1 l).mpr ⟨_, hw⟩)
  exact ⟨x, hx, ((far_dist ok hin.1 l x).mp hx).2 _ hw⟩
def lsV (d : PlanD) (e : Str) (n : Int) (g : Str) : Int := if n - ((getR (far d g) e).getD n) > 0 then n - ((getR (far d g) e).getD n) else 0
theorem getR_least {d : PlanD} (ok : PlanOk d) {e : Str} {n : Int} {g : Str} (hg : g ∈ d.evs) : getR (leastD d e n) g = some (lsV d e n g) :=
  getR_nd (by rw [leastD_keys]; exact ok.evs.nd) (List.mem_map_of_mem (f := fun g => (g, lsV d e n g)) hg)
theorem valR_least {d : PlanD} (ok : PlanOk d) {e : Str} {n : Int} {g : Str} (hg : g ∈ d.evs) : valR (leastD d e n) g = lsV d e n g := by
  unfold valR
  rw [getR_least ok hg]
  rfl
theorem lsV_nn (d : PlanD) (e : Str) (n : Int) (g : Str) : 0 ≤ lsV d e n g := by
  unfold lsV
  split <;> omega
theorem lsV_self {d : PlanD} (ok : PlanOk d) {e : Str} {n : Int} (he : e ∈ d.evs) (hn : 0 ≤ n) : lsV d e n e = n := by
  unfold lsV
  rw [far_self ok (List.mem_cons_of_mem _ he)]
  show (if n - 0 > 0 then n - 0 else 0) = n
  split <;> omega
theorem least_mom {d : PlanD} (ok : PlanOk d) {e : Str} {n : Int} (hn : 0 ≤ n) (hm : ∀ g, getR (far d "") e = some g → n ≤ g) : momB d (valR (leastD d e n)) = true := by
  unfold momB
  rw [Bool.and_eq_true_iff, Bool.and_eq_true_iff, List.all_eq_true, List.all_eq_true, List.all_eq_true]
  refine ⟨fun x hx => decide_eq_true ?_, fun c hc => decide_eq_true ?_, fun t ht => decide_eq_true ?_⟩
  · rw [valR_least ok hx]
    exact lsV_nn ..
  · obtain ⟨h1, h2⟩ := ok.cin c hc
    rw [valR_least ok h1]
    have hr : (("" : Str), c.1, c.2) ∈ lawRows d := List.mem_append_left _ (List.mem_append_right _ (List.mem_map_of_mem (f := fun c : Str × Int => (("" : Str), c.1, c.2)) hc))
    unfold lsV
    cases hy : getR (far d c.1) e with
    | none =>
      show (if n - n > 0 then n - n else 0) ≤ c.2
      split <;> omega
    | some y =>
      obtain ⟨x, hx, hle⟩ := far_row ok hr hy
      have := hm x hx
      show (if n - y > 0 then n - y else 0) ≤ c.2
      split <;> omega
  · obtain ⟨h1, h2, h3⟩ := ok.tin t ht
    rw [valR_least ok h1, valR_least ok h2]
    have hr : (t.1, t.2.1, t.2.2) ∈ lawRows d := List.mem_append_left _ (List.mem_append_left _ ht)
    have h0 := lsV_nn d e n t.1
    unfold lsV at h0 ⊢
    cases hy : getR (far d t.2.1) e with
    | none =>
      show (if n - n > 0 then n - n else 0) ≤ _
      rw [if_neg (by omega)]
      omega
    | some y =>
      obtain ⟨x, hx, hle⟩ := far_row ok hr hy
      rw [hx] at h0 ⊢
      show (if n - y > 0 then n - y else 0) ≤ (if n - x > 0 then n - x else 0) + t.2.2
      split <;> split <;> omega
/-- what a walk allows -/
def cz (c : Str → Int) (x : Str) : Int := if x = "" then 0 else c x
theorem mom_walk {d : PlanD} (ok : PlanOk d) {c : Str → Int} (hm : momB d c = true) {f l : Str} {w : Int} (h : Wk (RowL (lawRows d)) f l w) : cz c l ≤ cz c f + w := by
  unfold momB at hm
  rw [Bool.and_eq_true_iff, Bool.and_eq_true_iff, List.all_eq_true, List.all_eq_true, List.all_eq_true] at hm
  obtain ⟨m1, m2, m3⟩ := hm
  have ne : ∀ {x}, x ∈ d.evs → cz c x = c x := fun {x} hx => by
    unfold cz
    have hx0 : x ≠ "" := fun z => (List.nodup_cons.mp (evs_nd ok)).1 (z ▸ hx)
    rw [if_neg hx0]
  have z0 : cz c "" = 0 := by unfold cz; rw [if_pos rfl]
  induction h with
  | nil => omega
  | @snoc k l a b _ r ih =>
    have hs : cz c l ≤ cz c k + b := by
      have r : (k, l, b) ∈ lawRows d := r
      unfold lawRows at r
      rcases List.mem_append.mp r with r | r
      · rcases List.mem_append.mp r with r | r
        · obtain ⟨h1, h2, _⟩ := ok.tin _ r
          rw [ne h1, ne h2]
          exact of_decide_eq_true (m3 _ r)
        · obtain ⟨q, hq, e⟩ := List.mem_map.mp r
          cases e
          rw [z0, ne (ok.cin q hq).1]
          have : c q.1 ≤ q.2 := of_decide_eq_true (m2 q hq)
          omega
      · obtain ⟨q, hq, e⟩ := List.mem_map.mp r
        cases e
        rw [z0, ne hq]
        have : 0 ≤ c k := of_decide_eq_true (m1 k hq)
        omega
    omega
theorem mom_nn {d : PlanD} {c : Str → Int} (hm : momB d c = true) {g : Str} (hg : g ∈ d.evs) : 0 ≤ c g := by
  unfold momB at hm
  rw [Bool.and_eq_true_iff, List.all_eq_true] at hm
  exact of_decide_eq_true (hm.1 g hg)
theorem cz_in {d : PlanD} (ok : PlanOk d) {c : Str → Int} {x : Str} (hx : x ∈ d.evs) : cz c x = c x := by
  unfold cz
  have hx0 : x ≠ "" := fun z => (List.nodup_cons.mp (evs_nd ok)).1 (z ▸ hx)
  rw [if_neg hx0]
theorem least_le {d : PlanD} (ok : PlanOk d) {c : Str → Int} (hm : momB d c = true) {e g : Str} (he : e ∈ d.evs) (hg : g ∈ d.evs) {n : Int} (hn : n ≤ c e) : lsV d e n g ≤ c g := by
  have h0 := mom_nn hm hg
  unfold lsV
  cases hy : getR (far d g) e with
  | none =>
    show (if n - n > 0 then n - n else 0) ≤ c g
    rw [if_neg (by omega)]
    exact h0
  | some y =>
    have := mom_walk ok hm ((far_dist ok (List.mem_cons_of_mem _ hg) e y).mp hy).1
    rw [cz_in ok he, cz_in ok hg] at this
    show (if n - y > 0 then n - y else 0) ≤ c g
    split <;> omega
theorem most_le {d : PlanD} (ok : PlanOk d) {c : Str → Int} (hm : momB d c = true) {e : Str} (he : e ∈ d.evs) {g : Int} (h : getR (far d "") e = some g) : c e ≤ g := by
  have := mom_walk ok hm ((far_dist ok (List.mem_cons_self ..) e g).mp h).1
  rw [cz_in ok he] at this
  unfold cz at this
  rw [if_pos rfl] at this
  omega
theorem leastR_D {evs : List Str} {d : PlanD} {Z : Str → SR × WR} (hev : evs = d.evs) (h : ∀ f ∈ ("" : Str) :: d.evs, ∀ l, sOf Z f l = getR (far d f) l) (e : Str) (n : Int) : leastR Z e n evs = leastD d e n := by
  subst hev
  unfold leastR leastD
  refine List.map_congr_left fun g hg => ?_
  unfold leastOf
  rw [h g (List.mem_cons_of_mem _ hg)]

def evsIn (d : PlanD) (es : List Str) : List Str := d.evs.filter fun e => decide (e ∈ es)
noncomputable def seenD (d : PlanD) (es : List Str) : PlanD := planOf (evsIn d es) (subS (evsIn d es) d)
theorem evsIn_ok {d : PlanD} (ok : PlanOk d) {es : List Str} (hne : es ≠ []) (hin : ∀ e ∈ es, e ∈ d.evs) : EvsOk (evsIn d es) ∧ ∀ e ∈ evsIn d es, e ∈ d.evs := by
  have hs : ∀ e ∈ evsIn d es, e ∈ d.evs := fun e he => (List.mem_filter.mp he).1
  refine ⟨⟨?_, Nat.le_trans (List.length_filter_le _ _) ok.evs.hi, fun e he => ok.evs.nm e (hs e he), ok.evs.nd.filter _⟩, hs⟩
  cases es with
  | nil => exact absurd rfl hne
  | cons x r => exact List.length_pos_of_mem (List.mem_filter.mpr ⟨hin x (List.mem_cons_self ..), decide_eq_true (List.mem_cons_self ..)⟩)
theorem seenD_ok {d : PlanD} (ok : PlanOk d) {es : List Str} (hne : es ≠ []) (hin : ∀ e ∈ es, e ∈ d.evs) : PlanOk (seenD d es) := by
  obtain ⟨h1, h2⟩ := evsIn_ok ok hne hin
  exact planOf_ok h1 (clP_far ok h1.nd h2)
theorem seenD_far {d : PlanD} (ok : PlanOk d) {es : List Str} (hne : es ≠ []) (hin : ∀ e ∈ es, e ∈ d.evs) {f l : Str} (hf : f ∈ ("" : Str) :: evsIn d es) (hl : l ∈ ("" : Str) :: evsIn d es) : getR (far (seenD d es) f) l = getR (far d f) l := by
  obtain ⟨h1, h2⟩ := evsIn_ok ok hne hin
  unfold seenD
  rw [planOf_far h1 (clP_far ok h1.nd h2) hf]
  exact if_pos hl

/-- the greatest of some numbers, or 0 -/
def top0 (xs : List Int) : Int := xs.foldr (fun a b => if a > b then a else b) 0
theorem top0_spec : ∀ xs : List Int, 0 ≤ top0 xs ∧ (∀ x ∈ xs, x ≤ top0 xs) ∧ ∀ m, 0 ≤ m → (∀ x ∈ xs, x ≤ m) → top0 xs ≤ m
  | [] => ⟨Int.le_refl _, fun _ h => absurd h List.not_mem_nil, fun m h _ => h⟩
  | a :: r => by
    obtain ⟨h1, h2, h3⟩ := top0_spec r
    have e : top0 (a :: r) = if a > top0 r then a else top0 r := rfl
    rw [e]
    refine ⟨by split <;> omega, fun x hx => ?_, fun m hm hx => ?_⟩
    · rcases List.mem_cons.mp hx with hx | hx
      · rw [hx]
        split <;> omega
      · have := h2 x hx
        split <;> omega
    · have ha := hx a (List.mem_cons_self ..)
      have hr := h3 m hm fun x h => hx x (List.mem_cons_of_mem _ h)
      split <;> omega
def extC (d : PlanD) (es : List Str) (c : Str → Int) (x : Str) : Int := top0 (es.map fun g => match getR (far d x) g with
  | some y => c g - y
  | none => 0)
theorem extC_ge {d : PlanD} {es : List Str} {c : Str → Int} {x g : Str} {y : Int} (hg : g ∈ es) (h : getR (far d x) g = some y) : c g - y ≤ extC d es c x := by
  refine (top0_spec _).2.1 _ (List.mem_map.mpr ⟨g, hg, ?_⟩)
  rw [h]
theorem extC_le {d : PlanD} {es : List Str} {c : Str → Int} {x : Str} {m : Int} (hm : 0 ≤ m) (h : ∀ g ∈ es, ∀ y, getR (far d x) g = some y → c g - y ≤ m) : extC d es c x ≤ m := by
  refine (top0_spec _).2.2 m hm fun v hv => ?_
  obtain ⟨g, hg, rfl⟩ := List.mem_map.mp hv
  cases hy : getR (far d x) g with
  | none => exact hm
  | some y => exact h g hg y hy
section
variable {d : PlanD} (ok : PlanOk d) {es : List Str} (hne : es ≠ []) (hin : ∀ e ∈ es, e ∈ d.evs)
include ok hne hin
/-- what is seen of a moment is a moment of what is seen -/
theorem seen_mom {c : Str → Int} (hm : momB d c = true) : momB (seenD d es) c = true := by
  obtain ⟨h1, h2⟩ := evsIn_ok ok hne hin
  have cl := far_cl ok
  have m0 : ("" : Str) ∈ ("" : Str) :: d.evs := List.mem_cons_self ..
  unfold momB
  rw [Bool.and_eq_true_iff, Bool.and_eq_true_iff, List.all_eq_true, List.all_eq_true, List.all_eq_true]
  refine ⟨fun x hx => decide_eq_true (mom_nn hm (h2 x hx)), fun q hq => decide_eq_true ?_, fun t ht => decide_eq_true ?_⟩
  · obtain ⟨x, v⟩ := q
    obtain ⟨q1, q2⟩ := mem_capsO.mp (show (x, v) ∈ capsOf "" (evsIn d es) (subS (evsIn d es) d) from hq)
    rw [show subS (evsIn d es) d "" x = getR (far d "") x from if_pos (List.mem_cons_of_mem _ q1)] at q2
    exact most_le ok hm (h2 x q1) q2
  · obtain ⟨x, y, v⟩ := t
    obtain ⟨⟨q1, q2, _, q4⟩, _⟩ := mem_ties.mp (mem_pick_ties (show (x, y, v) ∈ pick (tiesOf "" (evsIn d es) (subS (evsIn d es) d)) (stayT "" (evsIn d es) (subS (evsIn d es) d)) from ht))
    rw [show subS (evsIn d es) d x y = getR (far d x) y from if_pos (List.mem_cons_of_mem _ q2)] at q4
    have := mom_walk ok hm (cl.of (List.mem_cons_of_mem _ (h2 x q1)) q4).1
    rw [cz_in ok (h2 x q1), cz_in ok (h2 y q2)] at this
    exact this
/-- a moment of what is seen is seen of a moment, with no greater counts -/
theorem seen_ext {c : Str → Int} (hm : momB (seenD d es) c = true) : momB d (extC d (evsIn d es) c) = true ∧ (∀ x ∈ evsIn d es, extC d (evsIn d es) c x = c x) ∧ ∀ m, 0 ≤ m → (∀ x ∈ evsIn d es, c x ≤ m) → ∀ x ∈ d.evs, extC d (evsIn d es) c x ≤ m := by
  obtain ⟨h1, h2⟩ := evsIn_ok ok hne hin
  have okS := seenD_ok ok hne hin
  have cl := far_cl ok
  have clS := far_cl okS
  have m0 : ("" : Str) ∈ ("" : Str) :: d.evs := List.mem_cons_self ..
  have mS : ∀ {x}, x ∈ evsIn d es → x ∈ ("" : Str) :: (seenD d es).evs := fun h => List.mem_cons_of_mem _ h
  have nn : ∀ {x g y}, x ∈ d.evs → getR (far d x) g = some y → 0 ≤ y := fun hx h => (cl.of (List.mem_cons_of_mem _ hx) h).1.nn cl.nn
  refine ⟨?_, fun x hx => Int.le_antisymm (extC_le (mom_nn (d := seenD d es) hm hx) fun g hg y hy => ?_) ?_, fun m h0 hc x hx => extC_le h0 fun g hg y hy => ?_⟩
  · unfold momB
    rw [Bool.and_eq_true_iff, Bool.and_eq_true_iff, List.all_eq_true, List.all_eq_true, List.all_eq_true]
    refine ⟨fun x hx => decide_eq_true (top0_spec _).1, fun q hq => decide_eq_true ?_, fun t ht => decide_eq_true ?_⟩
    · obtain ⟨q1, q2⟩ := ok.cin q hq
      refine extC_le q2 fun g hg y hy => ?_
      have hr : (("" : Str), q.1, q.2) ∈ lawRows d := List.mem_append_left _ (List.mem_append_right _ (List.mem_map_of_mem (f := fun c : Str × Int => (("" : Str), c.1, c.2)) hq))
      obtain ⟨u, hu, hle⟩ := far_row ok hr hy
      have hg0 : getR (far (seenD d es) "") g = some u := by
        rw [seenD_far ok hne hin (List.mem_cons_self ..) (List.mem_cons_of_mem _ hg)]
        exact hu
      have := most_le okS hm (show g ∈ (seenD d es).evs from hg) hg0
      omega
    · obtain ⟨t1, t2, t3⟩ := ok.tin t ht
      refine extC_le (Int.add_nonneg (top0_spec _).1 t3) fun g hg y hy => ?_
      have hr : (t.1, t.2.1, t.2.2) ∈ lawRows d := List.mem_append_left _ (List.mem_append_left _ ht)
      obtain ⟨u, hu, hle⟩ := far_row ok hr hy
      have := extC_ge (c := c) hg hu
      omega
  · have hgx : getR (far (seenD d es) x) g = some y := by
      rw [seenD_far ok hne hin (List.mem_cons_of_mem _ hx) (List.mem_cons_of_mem _ hg)]
      exact hy
    have := mom_walk okS hm (clS.of (mS hx) hgx).1
    rw [cz_in okS (show x ∈ (seenD d es).evs from hx), cz_in okS (show g ∈ (seenD d es).evs from hg)] at this
    omega
  · have := extC_ge (c := c) hx (cl.self (List.mem_cons_of_mem _ (h2 x hx)))
    omega
  · have := nn hx hy
    have := hc g hg
    omega
end

theorem cntL_le (p : List Str) (e : Str) : cntL p e ≤ p.length := by
  induction p with
  | nil => exact Int.le_refl _
  | cons x r ih =>
    show (if x = e then 1 else 0) + cntL r e ≤ ((r.length + 1 : Nat) : Int)
    split <;> omega

/-! ### runs towards a moment; what fits a row of seen events -/
theorem zero_mom {d : PlanD} (ok : PlanOk d) : momB d (fun _ => 0) = true := by
  unfold momB
  rw [Bool.and_eq_true_iff, Bool.and_eq_true_iff, List.all_eq_true, List.all_eq_true, List.all_eq_true]
  refine ⟨fun x _ => decide_eq_true (Int.le_refl 0), fun c hc => decide_eq_true (ok.cin c hc).2, fun t ht => decide_eq_true ?_⟩
  have := (ok.tin t ht).2.2
  show (0 : Int) ≤ 0 + t.2.2
  omega
theorem mom_parts {d : PlanD} {c : Str → Int} : momB d c = true ↔ (∀ e ∈ d.evs, 0 ≤ c e) ∧ (∀ q ∈ d.caps, c q.1 ≤ q.2) ∧ ∀ t ∈ d.ties, c t.2.1 ≤ c t.1 + t.2.2 := by
  unfold momB
  rw [Bool.and_eq_true_iff, Bool.and_eq_true_iff, List.all_eq_true, List.all_eq_true, List.all_eq_true]
  exact ⟨fun ⟨h1, h2, h3⟩ => ⟨fun e he => of_decide_eq_true (h1 e he), fun e he => of_decide_eq_true (h2 e he), fun e he => of_decide_eq_true (h3 e he)⟩, fun ⟨h1, h2, h3⟩ => ⟨fun e he => decide_eq_true (h1 e he), fun e he => decide_eq_true (h2 e he), fun e he => decide_eq_true (h3 e he)⟩⟩
theorem bump_ge (c : Ct) (e x : Str) : c x ≤ bumpC c e x := by
  unfold bumpC
  split <;> omega
theorem step_one {d : PlanD} (ok : PlanOk d) {c g : Ct} (hc : momB d c = true) (hg : momB d g = true) {e : Str} (he : e ∈ d.evs) (hlt : c e < g e) : momB d (bumpC c e) = true ∨ ∃ t ∈ d.ties, t.2.1 = e ∧ c t.1 < g t.1 ∧ c e = c t.1 + t.2.2 := by
  obtain ⟨c1, c2, c3⟩ := mom_parts.mp hc
  obtain ⟨g1, g2, g3⟩ := mom_parts.mp hg
  by_cases h : ∃ t ∈ d.ties, t.2.1 = e ∧ c e = c t.1 + t.2.2 ∧ t.1 ≠ e
  · obtain ⟨t, ht, h1, h2, _⟩ := h
    have := g3 t ht
    rw [h1] at this
    exact .inr ⟨t, ht, h1, by omega, h2⟩
  · refine .inl (mom_parts.mpr ⟨fun x hx => Int.le_trans (c1 x hx) (bump_ge c e x), fun q hq => ?_, fun t ht => ?_⟩)
    · by_cases z : q.1 = e
      · have := g2 q hq
        rw [z] at this ⊢
        rw [bump_at]; omega
      · rw [bump_ne c z]
        exact c2 q hq
    · have h0 := (ok.tin t ht).2.2
      have h3 := c3 t ht
      by_cases z : t.2.1 = e
      · rw [z, bump_at]
        by_cases y : t.1 = e
        · rw [y, bump_at]; omega
        · rw [bump_ne c y]
          rw [z] at h3
          have : c e ≠ c t.1 + t.2.2 := fun w => h ⟨t, ht, z, w, y⟩
          omega
      · rw [bump_ne c z]
        have := bump_ge c e t.1
        omega
/-- between two moments, the lesser one behind, some event may come -/
theorem step_mom {d : PlanD} (ok : PlanOk d) {c g : Ct} (hc : momB d c = true) (hg : momB d g = true) {ρ : Str → Nat} (hρ : ∀ t ∈ d.ties, t.2.2 = 0 → ρ t.1 < ρ t.2.1) :
    ∀ n m : Nat, ∀ e ∈ d.evs, c e < g e → c e = n → ρ e = m → ∃ x ∈ d.evs, c x < g x ∧ momB d (bumpC c x) = true := by
  intro n
  induction n using Nat.strongRecOn with
  | ind n ihn =>
    intro m
    induction m using Nat.strongRecOn with
    | ind m ihm =>
      intro e he hlt hn hm
      rcases step_one ok hc hg he hlt with h | ⟨t, ht, h1, h2, h3⟩
      · exact ⟨e, he, hlt, h⟩
      · obtain ⟨t1, _, t3⟩ := ok.tin t ht
        by_cases z : t.2.2 = 0
        · have hr := hρ t ht z
          rw [h1, hm] at hr
          exact ihm (ρ t.1) hr t.1 t1 h2 (by omega) rfl
        · have h0 := (mom_parts.mp hc).1 t.1 t1
          obtain ⟨k, hk⟩ := Int.eq_ofNat_of_zero_le h0
          exact ihn k (by omega) (ρ t.1) t.1 t1 h2 hk rfl
def gapC (es : List Str) (c g : Ct) : Int := (es.map fun e => g e - c e).sum
theorem gapC_cons (x : Str) (r : List Str) (c g : Ct) : gapC (x :: r) c g = (g x - c x) + gapC r c g := rfl
theorem gapC_no {c g : Ct} {x : Str} : ∀ {es : List Str}, x ∉ es → gapC es (bumpC c x) g = gapC es c g
  | [], _ => rfl
  | y :: r, h => by
    rw [List.mem_cons, not_or] at h
    rw [gapC_cons, gapC_cons, gapC_no h.2, bump_ne c (fun z => h.1 z.symm)]
theorem gapC_up {c g : Ct} {x : Str} : ∀ {es : List Str}, es.Nodup → x ∈ es → gapC es (bumpC c x) g = gapC es c g - 1
  | y :: r, nd, h => by
    rw [List.nodup_cons] at nd
    rw [gapC_cons, gapC_cons]
    by_cases e : y = x
    · rw [e] at nd ⊢
      rw [gapC_no nd.1, bump_at]
      omega
    · rw [gapC_up nd.2 ((List.mem_cons.mp h).resolve_left fun z => e z.symm), bump_ne c e]
      omega
theorem gapC_nn {c g : Ct} : ∀ {es : List Str}, (∀ e ∈ es, c e ≤ g e) → 0 ≤ gapC es c g
  | [], _ => Int.le_refl _
  | x :: r, h => by
    rw [gapC_cons]
    have := h x (List.mem_cons_self ..)
    have := gapC_nn (es := r) fun e he => h e (List.mem_cons_of_mem _ he)
    omega
theorem bump_le {c g : Ct} {es : List Str} {x : Str} (le : ∀ e ∈ es, c e ≤ g e) (h : c x < g x) : ∀ e ∈ es, bumpC c x e ≤ g e := fun e he => by
  by_cases z : e = x
  · rw [z, bump_at]; omega
  · rw [bump_ne c z]; exact le e he
theorem any_step {d : PlanD} (ok : PlanOk d) {c g : Ct} (hc : momB d c = true) (hg : momB d g = true) (le : ∀ e ∈ d.evs, c e ≤ g e) : (∀ e ∈ d.evs, c e = g e) ∨ ∃ x ∈ d.evs, c x < g x ∧ momB d (bumpC c x) = true := by
  by_cases h : ∃ e ∈ d.evs, c e < g e
  · obtain ⟨e, he, hlt⟩ := h
    obtain ⟨ρ, hρ⟩ := ok.up
    obtain ⟨n, hn⟩ := Int.eq_ofNat_of_zero_le ((mom_parts.mp hc).1 e he)
    exact .inr (step_mom ok hc hg hρ n (ρ e) e he hlt hn rfl)
  · refine .inl fun e he => ?_
    have := le e he
    have : ¬ c e < g e := fun z => h ⟨e, he, z⟩
    omega
theorem vec_eq {evs : List Str} {c g : Ct} : evs.map c = evs.map g ↔ ∀ e ∈ evs, c e = g e := List.map_inj_left
theorem in_vecs {evs : List Str} {cs : List Ct} {c : Ct} : evs.map c ∈ vecs evs cs ↔ ∃ g ∈ cs, ∀ e ∈ evs, g e = c e := by
  unfold vecs
  rw [List.mem_map]
  exact ⟨fun ⟨g, h1, h2⟩ => ⟨g, h1, vec_eq.mp h2⟩, fun ⟨g, h1, h2⟩ => ⟨g, h1, vec_eq.mpr h2⟩⟩
/-- closed under hidden events that may come, up to eight times each -/
def ClH (d : PlanD) (hs : List Str) (V : List Ct) : Prop := ∀ c : Ct, d.evs.map c ∈ vecs d.evs V → ∀ e ∈ hs, c e < 8 → momB d (bumpC c e) = true → d.evs.map (bumpC c e) ∈ vecs d.evs V
theorem bump_congr {evs : List Str} {c g : Ct} {e : Str} (he : e ∈ evs) (h : ∀ x ∈ evs, g x = c x) : ∀ x ∈ evs, bumpC g e x = bumpC c e x := fun x hx => by
  by_cases z : x = e
  · rw [z, bump_at, bump_at, h e he]
  · rw [bump_ne g z, bump_ne c z, h x hx]
theorem HidR.clh {d : PlanD} {hs : List Str} {cs V : List Ct} (ok : PlanOk d) (hin : ∀ e ∈ hs, e ∈ d.evs) (h : HidR d hs cs V) : ClH d hs V := fun c hc e he h8 hm => by
  obtain ⟨g, hg, eq⟩ := in_vecs.mp hc
  have hb := bump_congr (hin e he) eq
  have := h.cl g hg e he (by rw [eq e (hin e he)]; exact h8) (by rw [momB_congr ok hb]; exact hm)
  rw [vec_eq.mpr hb] at this
  exact this
theorem path_hid {d : PlanD} (ok : PlanOk d) {hs : List Str} {V : List Ct} (cl : ClH d hs V) {g : Ct} (hg : momB d g = true) (h8 : ∀ e ∈ d.evs, g e ≤ 8) :
    ∀ (n : Nat) (c : Ct), gapC d.evs c g = n → momB d c = true → (∀ e ∈ d.evs, c e ≤ g e) → (∀ e ∈ d.evs, e ∉ hs → c e = g e) → d.evs.map c ∈ vecs d.evs V → d.evs.map g ∈ vecs d.evs V := by
  intro n
  induction n with
  | zero =>
    intro c hn hc le out hV
    rcases any_step ok hc hg le with h | ⟨x, hx, hlt, hm⟩
    · rw [← vec_eq.mpr h]; exact hV
    · have h1 := gapC_up (c := c) (g := g) ok.evs.nd hx
      have h2 := gapC_nn (bump_le le hlt)
      omega
  | succ n ih =>
    intro c hn hc le out hV
    rcases any_step ok hc hg le with h | ⟨x, hx, hlt, hm⟩
    · rw [← vec_eq.mpr h]; exact hV
    · have hxh : x ∈ hs := by
        refine Classical.byContradiction fun z => ?_
        have := out x hx z
        omega
      have h1 := gapC_up (c := c) (g := g) ok.evs.nd hx
      refine ih (bumpC c x) (by omega) hm (bump_le le hlt) (fun e he hn => ?_) (cl c hV x hxh (by have := h8 x hx; omega) hm)
      rw [bump_ne c (fun z => hn (by rw [z]; exact hxh))]
      exact out e he hn
theorem path_one {d : PlanD} (ok : PlanOk d) {hs : List Str} {V : List Ct} (cl : ClH d hs V) {g : Ct} (hg : momB d g = true) (h8 : ∀ e ∈ d.evs, g e ≤ 8) {x : Str} (hx : x ∈ d.evs) (hxh : x ∉ hs) :
    ∀ (n : Nat) (c : Ct), gapC d.evs c g = n → momB d c = true → (∀ e ∈ d.evs, c e ≤ g e) → (∀ e ∈ d.evs, e ∉ hs → bumpC c x e = g e) → d.evs.map c ∈ vecs d.evs V →
      ∃ a : Ct, d.evs.map a ∈ vecs d.evs V ∧ momB d (bumpC a x) = true ∧ (∀ e ∈ d.evs, bumpC a x e ≤ g e) ∧ ∀ e ∈ d.evs, e ∉ hs → bumpC a x e = g e := by
  intro n
  induction n with
  | zero =>
    intro c hn hc le out hV
    have hxl : c x < g x := by have := out x hx hxh; rw [bump_at] at this; omega
    have h1 := gapC_up (c := c) (g := g) ok.evs.nd hx
    have h2 := gapC_nn (bump_le le hxl)
    omega
  | succ n ih =>
    intro c hn hc le out hV
    have hxl : c x < g x := by have := out x hx hxh; rw [bump_at] at this; omega
    rcases any_step ok hc hg le with h | ⟨y, hy, hlt, hm⟩
    · have := h x hx
      omega
    · by_cases z : y = x
      · rw [z] at hm
        exact ⟨c, hV, hm, bump_le le hxl, out⟩
      · have hyh : y ∈ hs := by
          refine Classical.byContradiction fun w => ?_
          have := out y hy w
          rw [bump_ne c z] at this
          omega
        have h1 := gapC_up (c := c) (g := g) ok.evs.nd hy
        refine ih (bumpC c y) (by omega) hm (bump_le le hlt) (fun e he hn => ?_) (cl c hV y hyh (by have := h8 y hy; omega) hm)
        have hey : e ≠ y := fun w => hn (by rw [w]; exact hyh)
        rw [← out e he hn]
        by_cases w : e = x
        · rw [w, bump_at, bump_at, bump_ne c (fun v => z v.symm)]
        · rw [bump_ne _ w, bump_ne c w, bump_ne c hey]
theorem ext_le {d : PlanD} {es : List Str} {c c' : Str → Int} (h : ∀ g ∈ es, c g ≤ c' g) (x : Str) : extC d es c x ≤ extC d es c' x :=
  extC_le (top0_spec _).1 fun g hg y hy => by
    have := extC_ge (c := c') hg hy
    have := h g hg
    omega
section
variable {d : PlanD} (ok : PlanOk d) {es : List Str} (hne : es ≠ []) (hin : ∀ e ∈ es, e ∈ d.evs)
def hidE (d : PlanD) (es : List Str) : List Str := d.evs.filter fun e => !decide (e ∈ es)
theorem hid_in {d : PlanD} {es : List Str} : ∀ e ∈ hidE d es, e ∈ d.evs := fun e he => (List.mem_filter.mp he).1
theorem not_hid {d : PlanD} {es : List Str} {e : Str} (he : e ∈ d.evs) : e ∉ hidE d es ↔ e ∈ es := by
  unfold hidE
  rw [List.mem_filter]
  by_cases h : e ∈ es <;> simp [h, he]
/-- all beginnings of a row are moments of what is seen -/
def AllP (d : PlanD) (es p : List Str) : Prop := ∀ q x, q ++ [x] <+: p → momB (seenD d es) (cntL (q ++ [x])) = true
/-- the states behind a row -/
structure FitI (d : PlanD) (es p : List Str) (cs : List Ct) : Prop where
  sm : Sm8 d.evs cs
  mo : ∀ g ∈ cs, momB d g = true ∧ ∀ e ∈ d.evs, e ∈ es → g e = cntL p e
  cl : ClH d (hidE d es) cs
  co : AllP d es p → d.evs.map (extC d (evsIn d es) (cntL p)) ∈ vecs d.evs cs
  ne : cs ≠ [] → AllP d es p
/-- the states with one event more, before hidden ones come -/
structure AftI (d : PlanD) (x : Str) (cs acs : List Ct) : Prop where
  sm : Sm8 d.evs acs
  snd : ∀ a ∈ acs, momB d a = true ∧ ∃ g ∈ cs, a = bumpC g x
  co : ∀ g ∈ cs, momB d (bumpC g x) = true → d.evs.map (bumpC g x) ∈ vecs d.evs acs
include ok hne hin
theorem allP_mom {p : List Str} (h : AllP d es p) : momB (seenD d es) (cntL p) = true := by
  rcases List.eq_nil_or_concat p with rfl | ⟨q, x, rfl⟩
  · exact zero_mom (seenD_ok ok hne hin)
  · rw [List.concat_eq_append] at h ⊢
    exact h q x (List.prefix_refl _)
theorem ext_facts {p : List Str} (h : AllP d es p) (h8 : p.length ≤ 8) : momB d (extC d (evsIn d es) (cntL p)) = true ∧ (∀ x ∈ d.evs, x ∈ es → extC d (evsIn d es) (cntL p) x = cntL p x) ∧ ∀ x ∈ d.evs, extC d (evsIn d es) (cntL p) x ≤ 8 := by
  obtain ⟨h1, h2, h3⟩ := seen_ext ok hne hin (allP_mom ok hne hin h)
  refine ⟨h1, fun x hx hxe => h2 x (List.mem_filter.mpr ⟨hx, decide_eq_true hxe⟩), fun x hx => Int.le_trans (h3 p.length (by omega) (fun y _ => cntL_le p y) x hx) (by omega)⟩
theorem fit_start {cs : List Ct} (h : HidR d (hidE d es) [fun _ => 0] cs) : FitI d es [] cs := by
  have h0 : AllP d es [] := fun q x hp => by
    have := List.prefix_nil.mp hp
    simp at this
  have zero : (fun _ => 0 : Ct) ∈ cs := h.inc _ (List.mem_singleton_self _)
  refine ⟨h.sm, fun g hg => ?_, h.clh ok hid_in, fun _ => ?_, fun _ => h0⟩
  · rcases h.snd g hg with hg | ⟨hm, g0, hg0, eq⟩
    · rw [List.mem_singleton.mp hg]
      exact ⟨zero_mom ok, fun _ _ _ => rfl⟩
    · rw [List.mem_singleton.mp hg0] at eq
      exact ⟨hm, fun e he hes => eq e he ((not_hid he).mpr hes)⟩
  · obtain ⟨h1, h2, h3⟩ := ext_facts ok hne hin h0 (by decide)
    have le : ∀ e ∈ d.evs, (fun _ => 0 : Ct) e ≤ extC d (evsIn d es) (cntL []) e := fun e _ => (top0_spec _).1
    obtain ⟨n, hn⟩ := Int.eq_ofNat_of_zero_le (gapC_nn le)
    exact path_hid ok (h.clh ok hid_in) h1 h3 n _ hn (zero_mom ok) le (fun e he hh => ((h2 e he ((not_hid he).mp hh)).symm)) (in_vecs.mpr ⟨_, zero, fun _ _ => rfl⟩)
theorem fit_step {p : List Str} {x : Str} {cs acs cs' : List Ct} (h : FitI d es p cs) (ha : AftI d x cs acs) (h' : HidR d (hidE d es) acs cs') (hx : x ∈ d.evs) (hxe : x ∈ es) (hl : p.length < 8) : FitI d es (p ++ [x]) cs' := by
  have hbump : ∀ {g : Ct}, (∀ e ∈ d.evs, e ∈ es → g e = cntL p e) → ∀ e ∈ d.evs, e ∈ es → bumpC g x e = cntL (p ++ [x]) e := fun hg e he hes => by
    rw [cntL_snoc]
    by_cases z : e = x
    · rw [z, bump_at, if_pos rfl, hg x hx hxe]
    · rw [bump_ne _ z, if_neg (fun w => z w.symm), hg e he hes]
      omega
  have hmo : ∀ a ∈ acs, momB d a = true ∧ ∀ e ∈ d.evs, e ∈ es → a e = cntL (p ++ [x]) e := fun a haa => by
    obtain ⟨h1, g, hg, rfl⟩ := ha.snd a haa
    exact ⟨h1, hbump (h.mo g hg).2⟩
  have hne' : cs' ≠ [] → ∃ a, a ∈ acs := fun hn => by
    obtain ⟨g, hg⟩ := List.exists_mem_of_ne_nil _ hn
    rcases h'.snd g hg with hg | ⟨_, g0, hg0, _⟩
    · exact ⟨g, hg⟩
    · exact ⟨g0, hg0⟩
  refine ⟨h'.sm, fun g hg => ?_, h'.clh ok hid_in, fun hp => ?_, fun hn q y hq => ?_⟩
  · rcases h'.snd g hg with hg | ⟨hm, g0, hg0, eq⟩
    · exact hmo g hg
    · exact ⟨hm, fun e he hes => by rw [eq e he ((not_hid he).mpr hes)]; exact (hmo g0 hg0).2 e he hes⟩
  · have hp0 : AllP d es p := fun q y hq => hp q y (hq.trans (List.prefix_append _ _))
    obtain ⟨e1, e2, e3⟩ := ext_facts ok hne hin hp0 (by omega)
    obtain ⟨f1, f2, f3⟩ := ext_facts ok hne hin hp (by rw [List.length_append, List.length_singleton]; omega)
    have le : ∀ e ∈ d.evs, extC d (evsIn d es) (cntL p) e ≤ extC d (evsIn d es) (cntL (p ++ [x])) e := fun e _ => ext_le (fun g _ => by rw [cntL_snoc]; split <;> omega) e
    obtain ⟨n, hn⟩ := Int.eq_ofNat_of_zero_le (gapC_nn le)
    have hxh : x ∉ hidE d es := (not_hid hx).mpr hxe
    obtain ⟨a, a1, a2, a3, a4⟩ := path_one ok h.cl f1 f3 hx hxh n _ hn e1 le (fun e he hh => by
      have hes := (not_hid he).mp hh
      rw [f2 e he hes]
      exact hbump (fun e he hes => e2 e he hes) e he hes) (h.co hp0)
    obtain ⟨g, hg, eq⟩ := in_vecs.mp a1
    have hb := bump_congr hx eq
    have h3 := ha.co g hg (by rw [momB_congr ok hb]; exact a2)
    rw [vec_eq.mpr hb] at h3
    obtain ⟨u, hu, eu⟩ := in_vecs.mp h3
    have h4 : d.evs.map (bumpC a x) ∈ vecs d.evs cs' := in_vecs.mpr ⟨u, h'.inc u hu, eu⟩
    obtain ⟨k, hk⟩ := Int.eq_ofNat_of_zero_le (gapC_nn a3)
    exact path_hid ok (h'.clh ok hid_in) f1 f3 k _ hk a2 a3 a4 h4
  · obtain ⟨a, haa⟩ := hne' hn
    obtain ⟨h1, g, hg, _⟩ := ha.snd a haa
    rcases pre_snoc.mp hq with hq | hq
    · exact h.ne (List.ne_nil_of_mem hg) q y hq
    · rw [hq]
      rw [← momB_congr (seenD_ok ok hne hin) (f := a) fun e he => ?_]
      · exact seen_mom ok hne hin h1
      · obtain ⟨y1, y2⟩ := List.mem_filter.mp (show e ∈ evsIn d es from he)
        exact (hmo a haa).2 e y1 (of_decide_eq_true y2)
theorem fit_end {p : List Str} {cs : List Ct} (h : FitI d es p cs) : runB (seenD d es) p = !decide (cs.length = 0) := by
  rw [Bool.eq_iff_iff, runB_iff]
  constructor
  · intro hp
    obtain ⟨g, hg, _⟩ := in_vecs.mp (h.co hp)
    rw [Bool.not_eq_true', decide_eq_false_iff_not]
    intro z
    rw [List.eq_nil_of_length_eq_zero z] at hg
    cases hg
  · intro hn
    rw [Bool.not_eq_true', decide_eq_false_iff_not] at hn
    exact h.ne fun z => hn (by rw [z]; rfl)
end

end
end Pk

set_option Elab.async false
set_option linter.all false
set_option maxRecDepth 100000
set_option maxHeartbeats 4000000
namespace Pk
open PySem PySem.Spec PyProof.Rows L2 Pu
abbrev s_law_fits : Stmt := topS 82
theorem sc_law_fits : FnScope ["_law_model_here", "_law_names_here", "_law_row", "_law_event", "_law_hidden_here", "_law_states", "_law_after", "_law_counts", "_law_more"] ["_law_model_here", "_law_names_here", "_law_row"] (defScope s_law_fits) := ⟨rfl, rfl, rfl, by decide +kernel, rfl, by decide +kernel, by decide +kernel⟩

section
variable {P : Program} {w : World} {K : PySem.W.Frag} {mg : Str → Option Value} {base : Heap}
/-! ### what fits a row of seen events -/
def spFits : Sp := fun vs H Q _ => ∃ (m n r : Addr) (d : PlanD) (es row : List Str), vs = [.ref m, .ref n, .ref r] ∧ MdAt H m d ∧ PlanOk d ∧ d.evs.length ≤ 4 ∧ H n = some (.lst (es.map V.str)) ∧ es ≠ [] ∧ (∀ e ∈ es, e ∈ d.evs) ∧ es.length ≤ 8 ∧ H r = some (.lst (row.map V.str)) ∧ (∀ e ∈ row, e ∈ d.evs ∧ e ∈ es) ∧ row.length ≤ 4 ∧
  ∀ H', Same H H' → Q (.bl (runB (seenD d es) row)) H'
theorem AftI.skip {d : PlanD} {x : Str} {cs acs : List Ct} {g : Ct} (h : AftI d x cs acs) (k : momB d (bumpC g x) = true → d.evs.map (bumpC g x) ∈ vecs d.evs acs) : AftI d x (cs ++ [g]) acs := by
  refine ⟨h.sm, fun a ha => ?_, fun y hy hm => ?_⟩
  · obtain ⟨h1, g', hg, e⟩ := h.snd a ha
    exact ⟨h1, g', List.mem_append_left _ hg, e⟩
  · rcases List.mem_append.mp hy with hy | hy
    · exact h.co y hy hm
    · rw [List.mem_singleton.mp hy] at hm ⊢
      exact k hm
theorem AftI.add {d : PlanD} {x : Str} {cs acs : List Ct} {g : Ct} (h : AftI d x cs acs) (hm : momB d (bumpC g x) = true) (hn : d.evs.map (bumpC g x) ∉ vecs d.evs acs) (hb : ∀ e ∈ d.evs, 0 ≤ bumpC g x e ∧ bumpC g x e ≤ 8) : AftI d x (cs ++ [g]) (acs ++ [bumpC g x]) := by
  refine ⟨⟨?_, fun a ha => ?_⟩, fun a ha => ?_, fun y hy hm => ?_⟩
  · have := h.sm.nd
    unfold vecs at *
    rw [List.map_append]
    refine List.nodup_append.mpr ⟨this, List.pairwise_singleton _ _, fun a ha b hb z => ?_⟩
    rw [List.mem_singleton.mp hb] at z
    rw [z] at ha
    exact hn ha
  · rcases List.mem_append.mp ha with ha | ha
    · exact h.sm.bd a ha
    · rw [List.mem_singleton.mp ha]
      exact hb
  · rcases List.mem_append.mp ha with ha | ha
    · obtain ⟨h1, g', hg, e⟩ := h.snd a ha
      exact ⟨h1, g', List.mem_append_left _ hg, e⟩
    · rw [List.mem_singleton.mp ha]
      exact ⟨hm, g, List.mem_append_right _ (List.mem_singleton_self _), rfl⟩
  · unfold vecs at *
    rw [List.map_append]
    rcases List.mem_append.mp hy with hy | hy
    · exact List.mem_append_left _ (h.co y hy hm)
    · rw [List.mem_singleton.mp hy]
      exact List.mem_append_right _ (List.mem_singleton_self _)
theorem ok_fits {f : Addr} {fd : FuncData} (F : Fun K "_law_fits" "_law_fits" s_law_fits f fd) (T : Txt mg) (claw_is_moment : Cal P w K mg base 2 "_law_is_moment" spIsMoment []) (claw_hidden : Cal P w K mg base 3 "_law_hidden" spHidden []) : FnOk P w K mg base CX0 4 f fd ["_law_model_here", "_law_names_here", "_law_row"] spFits := by
  have nd := sc_law_fits.nd
  refine F.ok sc_law_fits (fun vs H Q E h => ?_) (fun cdv A outer s H vs Q E hr h => ?_)
  · obtain ⟨_, _, _, _, _, _, rfl, _⟩ := h
    rfl
  · obtain ⟨m, n, r, d, es, row, rfl, hM, ok, hl4, hn, hne, hin, he8, hr', hrow, hrl, qq⟩ := h
    have hu := hu_of hr
    refine ⟨_, (pss_cons (ps_setLc (i := 4) (y := "_law_hidden_here") (own := [("_law_event", 3)]) (g := gName 3) rfl nd rfl rfl (sw_true rfl rfl rfl (by decide +kernel)) (pi_list (pe_ix (ixL K) (pv 0) pe_int (fun _ _ => rfl))) (blkOk_by (N := ["_law_model_here", "_law_names_here", "_law_row", "_law_event", "_law_hidden_here", "_law_states", "_law_after", "_law_counts", "_law_more"]) (sc := defScope s_law_fits) (by decide +kernel)) (fun _ _ _ _ _ => pg_name (i := 3) nd rfl (Or.inl rfl)) (fun _ _ _ _ _ => pts_one (pt_cmpR (oNotIn K) (pv 3) (pv 1) (by rfl))) (fun _ _ _ _ _ => (pv 3)))
      (pss_cons (ps_set (i := 5) nd rfl (Or.inl rfl) (pe_c claw_hidden hr (by decide) rfl (pa_cons (pv 0) (pa_cons (pe_lst (pa_cons (pe_callTy (call_dictP rfl) (by rfl) T.m_dict PyProof.Rows.boot_dict (pa_cons (pe_lc (own := [("_law_event", 3)]) (g := gName 3) (tt := tYes) rfl nd (pi_list (pe_ix (ixL K) (pv 0) pe_int (fun _ _ => rfl))) (blkOk_by (N := ["_law_model_here", "_law_names_here", "_law_row", "_law_event", "_law_hidden_here", "_law_states", "_law_after", "_law_counts", "_law_more"]) (sc := defScope s_law_fits) (by decide +kernel)) (fun _ _ _ _ _ => pg_name (i := 3) nd rfl (Or.inl rfl)) (fun _ _ _ _ _ => pts_nil) (fun _ _ _ _ _ => (pe_tup (pa_cons (pv 3) (pa_cons pe_int pa_nil))))) pa_nil)) pa_nil)) (pa_cons (pv 4) pa_nil)))))
      (pss_cons (ps_for PassesOwn.never rfl (pi_list (pv 2)) (pg_name (i := 3) nd rfl (Or.inl rfl))
      (pss_cons (ps_set (i := 6) nd rfl (Or.inl rfl) (pe_lst pa_nil))
      (pss_cons (ps_for PassesOwn.never rfl (pi_list (pv 5)) (pg_name (i := 7) nd rfl (Or.inl rfl))
      (pss_cons (ps_set (i := 8) nd rfl (Or.inl rfl) (pe_callTy call_dictD (by rfl) T.m_dict PyProof.Rows.boot_dict (pa_cons (pv 7) pa_nil)))
      (pss_cons (ps_dput hu (pv 8) (pv 3) (pe_op oAdd (pe_dget hu (pv 8) (pv 3) (fun _ _ => rfl)) pe_int) rfl)
      (pss_one (ps_if (PW.pt (pw_and (pt_val (pe_c claw_is_moment hr (by decide) rfl (pa_cons (pv 0) (pa_cons (pv 8) pa_nil)))) (pw_and1 (pt_cmpR (op_notInB K hr) (pv 8) (pv 6) (by rfl)))))
      (pss_one (ps_expr (pe_bm PySem.F.plainAttrs_list PySem.F.slot_list_append PySem.F.type_list_append mt_append (pv 6) (pa_cons (pv 8) pa_nil)))) pss_nil)))))
      (pss_one (ps_set (i := 5) nd rfl (Or.inl rfl) (pe_c claw_hidden hr (by decide) rfl (pa_cons (pv 0) (pa_cons (pv 6) (pa_cons (pv 4) pa_nil)))))))))
      (pss_one (ps_ret (pe_cmpR (op_neB K hr) (pv 5) (pe_lst pa_nil) (by rfl))))))), ?_⟩
    obtain ⟨e, t, c, ts, h1, h2, h3, h4, h5⟩ := id hM
    refine seq_asg ?_
    refine ⟨_, rfl, m, _, ((0 : Nat) : Int), .ref e, rfl, rfl, .inl (.inl h1), atI_nat rfl, e, rfl, ⟨_, .inl (.inl h2)⟩, fun D nD => ?_⟩
    refine lc_flt (fun x => !decide (x ∈ es)) (walk_list (K := K) (a := e) (xs := d.evs.map V.str)) nD (fun H' s => .inl (.inl (s _ _ h2))) (fun _ => rfl) (fun y hy H' s' N hN => ?_) (fun y H' N hN => ⟨_, rfl, hN⟩) (fun H1 s1 hD1 => ?_)
    · refine ⟨_, rfl, _, rfl, .inr ⟨n, _, rfl, .inl (.inl (.inl (s' _ _ hn))), rfl, flat_strs _, _, rfl, ?_⟩⟩
      rw [inV_strs]
      exact hN H' (Same.refl _)
    have hD1 : H1 D = some (.lst ((hidE d es).map V.str)) := hD1
    refine gname (seq_asg ?_)
    refine ⟨_, rfl, _, rfl, m, _, ((0 : Nat) : Int), .ref e, rfl, rfl, .inl (.inl (s1 _ _ h1)), atI_nat rfl, e, rfl, ⟨_, .inl (.inl (s1 _ _ h2))⟩, fun G nG => ?_⟩
    refine lc_it (walk_list (K := K) (a := e) (xs := d.evs.map V.str)) (fun i H' => Same H1 H' ∧ ∃ as, H' G = some (.lst (as.map V.ref)) ∧ PairN H' as (rowG (d.evs.take i) fun _ => 0)) ⟨same_upd nG, [], upd_same, .nil⟩ (fun i H' _ pv => .inl (.inl (pv.1 _ _ (s1 _ _ h2)))) (fun i x H3' H3 hi pv yv => ?_) (fun H3 pv => ?_)
    · obtain ⟨rfl, hx⟩ := yv
      obtain ⟨g, hg, rfl⟩ := strs_get hx
      obtain ⟨s3, as, hD3, hP⟩ := pv
      refine ⟨rfl, _, rfl, sz 2, fun T nT => ?_⟩
      obtain ⟨w1, w2, w3, w4⟩ := pairN_step (c := (g, 0)) nG s3 hD3 hP nT
      refine ⟨_, w1, ?_, w2, _, w3, ?_⟩
      · rw [List.length_map, Paired.length hP]
        unfold rowG
        rw [List.length_map, List.length_take]
        exact Nat.lt_of_le_of_lt (Nat.min_le_right _ _) (Nat.lt_of_le_of_lt hl4 (Nat.lt_of_lt_of_le (by decide) (sz 9)))
      · rw [List.take_add_one, hg]
        unfold rowG at *
        rw [List.map_append]
        exact w4
    obtain ⟨s3, as, hD3, hP⟩ := pv
    rw [List.length_map, List.take_length] at hP
    refine ⟨G, as, kvR V.int (rowG d.evs fun _ => 0), rfl, .inl (.inl hD3), hP.kvs, fun q nq => ?_⟩
    rw [merge_nd (by rw [rowG_keys]; exact ok.evs.nd)]
    refine ⟨sz 1, fun L nL => ?_⟩
    have s4 : Same H1 (upd (upd H3 q (.dK (kvR V.int (rowG d.evs fun _ => 0)))) L (.lst [.ref q])) := Same.trans s3 (Same.trans (same_upd nq) (same_upd nL))
    have q4 : (upd (upd H3 q (.dK (kvR V.int (rowG d.evs fun _ => 0)))) L (.lst [.ref q])) q = some (.dK (kvR V.int (rowG d.evs fun _ => 0))) := same_upd nL _ _ upd_same
    have l4 : (upd (upd H3 q (.dK (kvR V.int (rowG d.evs fun _ => 0)))) L (.lst [.ref q])) L = some (.lst ([q].map V.ref)) := upd_same
    revert s4 q4 l4
    generalize upd (upd H3 q (.dK (kvR V.int (rowG d.evs fun _ => 0)))) L (.lst [.ref q]) = H4
    intro s4 q4 l4
    clear nL nq s3 hD3 hP nG
    refine ⟨_, rfl, m, L, D, d, [q], [fun _ => 0], hidE d es, rfl, hM.same (Same.trans s1 s4), ok, hl4, l4, .cons q4 .nil, ⟨List.pairwise_singleton _ _, fun g hg x _ => ?_⟩, s4 _ _ hD1, hid_in, fun S as1 cs1 H5 s5 nS hS5 hst5 hR5 => ?_⟩
    · rw [List.mem_singleton.mp hg]
      exact ⟨Int.le_refl 0, (by decide : (0 : Int) ≤ 8)⟩
    have s05 := Same.trans s1 (Same.trans s4 s5)
    have hD5 := s5 _ _ (s4 _ _ hD1)
    have fit0 := fit_start ok hne hin hR5
    have hlen : ∀ h : Ct, (kvR V.int (rowG d.evs h)).length < sizeLine := fun h => by
      rw [kvR_len]
      unfold rowG
      rw [List.length_map]
      exact Nat.lt_of_le_of_lt hl4 (Nat.lt_of_lt_of_le (by omega) (sz 9))
    clear s1 s4 s5 nS hR5 q4 l4 hD1 nD
    refine gname (seq_st ?_)
    refine ⟨_, rfl, r, rfl, ⟨_, .inl (.inl (s05 _ _ hr'))⟩, ?_⟩
    refine for_it (walk_list (K := K) (a := r) (xs := row.map V.str)) (fun i σ H' => Same H5 H' ∧ ∃ S as cs v3 v6 v7 v8, σ = [some (.ref m), some (.ref n), some (.ref r), v3, some (.ref D), some (.ref S), v6, v7, v8] ∧ H' S = some (.lst (as.map V.ref)) ∧ StAt H' d.evs as cs ∧ FitI d es (row.take i) cs)
      ⟨Same.refl _, S, as1, cs1, _, _, _, _, rfl, hS5, hst5, by rw [List.take_zero]; exact fit0⟩ (fun i σ H' _ pv => .inl (.inl (pv.1 _ _ (s05 _ _ hr')))) (fun i x σ H6' H6 hi pv yv => ?_) (fun σ H6 pv => ?_)
    · obtain ⟨rfl, hx⟩ := yv
      obtain ⟨s6, S, as, cs, v3, v6, v7, v8, rfl, hS6, hst6, fit⟩ := pv
      obtain ⟨x, hxi, rfl⟩ := strs_get hx
      obtain ⟨hxe, hxs⟩ := hrow x (List.mem_of_getElem? hxi)
      have hil : i < row.length := by rw [List.length_map] at hi; exact hi
      have htk : row.take (i + 1) = row.take i ++ [x] := by rw [List.take_add_one, hxi]; rfl
      have hpl : (row.take i).length ≤ 3 := by rw [List.length_take]; omega
      have s06 := Same.trans s05 s6
      refine gname (seq_asg ?_)
      refine ⟨sz 0, fun A nA => ?_⟩
      have sA := same_upd nA (o := .lst (([] : List Addr).map V.ref))
      have kA : (upd H6 A (.lst (([] : List Addr).map V.ref))) A = some (.lst (([] : List Addr).map V.ref)) := upd_same
      have e0 : upd H6 A (.lst []) = upd H6 A (.lst (([] : List Addr).map V.ref)) := rfl
      rw [e0]
      revert sA kA
      generalize upd H6 A (.lst (([] : List Addr).map V.ref)) = H7
      intro sA kA
      clear e0
      refine gname (seq_st ?_)
      refine ⟨_, rfl, S, rfl, ⟨_, .inl (.inl (sA _ _ hS6))⟩, ?_⟩
      refine for_it (walk_list (K := K) (a := S) (xs := as.map V.ref)) (fun j σ H' => Same H6 H' ∧ ∃ aas acs v7 v8, σ = [some (.ref m), some (.ref n), some (.ref r), some (.str x), some (.ref D), some (.ref S), some (.ref A), v7, v8] ∧ H' A = some (.lst (aas.map V.ref)) ∧ StAt H' d.evs aas acs ∧ AftI d x (cs.take j) acs)
        ⟨sA, [], [], _, _, rfl, kA, .nil, ⟨⟨.nil, fun _ h => nomatch h⟩, (fun _ h => nomatch h), fun _ h => by rw [List.take_zero] at h; cases h⟩⟩ (fun j σ H' _ pv => .inl (.inl (pv.1 _ _ hS6))) (fun j y σ H8' H8 hj pv yv => ?_) (fun σ H8 pv => ?_)
      · obtain ⟨rfl, hy⟩ := yv
        obtain ⟨s8, aas, acs, v7, v8, rfl, hA8, hst8, aft⟩ := pv
        obtain ⟨a, ha, rfl⟩ := refs_get hy
        obtain ⟨g, hg, hga⟩ := L2.paired_get hst6 ha
        have hgm := List.mem_of_getElem? hg
        have htc : cs.take (j + 1) = cs.take j ++ [g] := by rw [List.take_add_one, hg]; rfl
        have hga := s8 _ _ hga
        refine gname (seq_asg ?_)
        refine ⟨_, rfl, a, _, rfl, .inl hga, fun q nq => ?_⟩
        refine gname (seq_st ?_)
        refine ⟨_, rfl, _, rfl, q, _, rfl, dget_row upd_same hxe, .inl ⟨_, _, rfl, rfl, _, rfl, _, rfl, q, _, rfl, .inl ⟨_, .inr x, upd_same, rfl, hlen _, rfl⟩, ?_⟩⟩
        have sr : Same H8 (upd (upd H8 q (.dK (kvR V.int (rowG d.evs g)))) q (.dK (putK (kvR V.int (rowG d.evs g)) (.inr x) (.int (g x + 1))))) := same_put nq (same_upd nq)
        have s9 := Same.trans s8 sr
        have hA9 := sr _ _ hA8
        have hst9 := hst8.same sr
        have q9 : (upd (upd H8 q (.dK (kvR V.int (rowG d.evs g)))) q (.dK (putK (kvR V.int (rowG d.evs g)) (.inr x) (.int (g x + 1))))) q = some (.dK (kvR V.int (rowG d.evs (bumpC g x)))) := by
          rw [upd_same, rowG_put ok.evs.nd hxe]
          refine congrArg (fun r => some (HO.dK (kvR V.int r))) (rowG_congr fun l hl => ?_)
          unfold bumpC
          by_cases z : l = x
          · rw [if_pos z, if_pos z, z]
          · rw [if_neg z, if_neg z]
        revert s9 hA9 hst9 q9
        generalize upd (upd H8 q (.dK (kvR V.int (rowG d.evs g)))) q (.dK (putK (kvR V.int (rowG d.evs g)) (.inr x) (.int (g x + 1)))) = H9
        intro s9 hA9 hst9 q9
        clear sr nq hga hst8 hA8 s8
        refine ⟨_, rfl, _, rfl, m, q, d, _, rfl, hM.same (Same.trans s06 s9), ok, q9, by rw [rowG_keys], fun H10 s10 => ⟨_, rfl, ?_⟩⟩
        have hmb : momB d (valR (rowG d.evs (bumpC g x))) = momB d (bumpC g x) := momB_congr ok fun y hy => by unfold valR; rw [rowG_get hy]; rfl
        rw [hmb]
        have s910 := Same.trans s9 s10
        have hA10 := s10 _ _ hA9
        have hst10 := hst9.same s10
        have q10 := s10 _ _ q9
        have nAH : A ≠ q := fun z => by rw [z, q9] at hA9; cases hA9
        refine ite2 (fun hm => ?_) (fun hm => iteF ?_)
        · refine ⟨_, rfl, _, rfl, A, aas.map V.ref, 2, acs.map fun g' => decide (d.evs.map g' = d.evs.map (bumpC g x)), rfl, .inl (.inl hA10), by decide, ?_, fun j z b hz hb => states_at ok.evs.nd hst10 q10 hz hb, _, rfl, ?_⟩
          · rw [List.length_map, List.length_map, Paired.length hst10]
          have key : (if true = true then !(acs.map fun g' => decide (d.evs.map g' = d.evs.map (bumpC g x))).any id else (acs.map fun g' => decide (d.evs.map g' = d.evs.map (bumpC g x))).any id) = !decide (d.evs.map (bumpC g x) ∈ vecs d.evs acs) := by rw [if_pos rfl, any_vecs]
          rw [key]
          refine ite2 (fun hn => ?_) (fun hn => ?_)
          · rw [Bool.not_eq_true', decide_eq_false_iff_not] at hn
            have hb : ∀ y ∈ d.evs, 0 ≤ bumpC g x y ∧ bumpC g x y ≤ 8 := fun y hy => by
              have h1 := fit.sm.bd g hgm y hy
              by_cases z : y = x
              · rw [z] at h1 ⊢
                rw [bump_at]
                have := (fit.mo g hgm).2 x hxe hxs
                have := cntL_le (row.take i) x
                omega
              · rw [bump_ne g z]
                exact h1
            have aft2 := aft.add hm hn hb
            have hl2 := aft2.sm.len hl4
            rw [List.length_append, List.length_singleton] at hl2
            have hal := Paired.length hst10
            refine ⟨_, rfl, .inl ⟨rfl, _, .inl (.inl hA10)⟩, _, rfl, A, _, _, rfl, rfl, hA10, ?_, ?_⟩
            · rw [List.length_map]
              exact Nat.lt_of_lt_of_le (by omega) (sz 20000)
            have kp : ∀ {x : Addr} {kvs}, H10 x = some (.dK kvs) → (upd H10 A (.lst (aas.map V.ref ++ [.ref q]))) x = some (.dK kvs) := fun {x kvs} hx => by
              rw [upd_ne (ne_of hx hA10 (fun z => nomatch z))]
              exact hx
            refine ⟨same_put nA s910, aas ++ [q], _, _, _, rfl, ?_, paired_snoc (Paired.mapP hst10 fun _ _ x => kp x) (kp q10), by rw [htc]; exact aft2⟩
            rw [upd_same, List.map_append]
            rfl
          · have hn : d.evs.map (bumpC g x) ∈ vecs d.evs acs := Classical.byContradiction fun z => hn (by rw [decide_eq_false z]; rfl)
            exact ⟨s910, aas, acs, _, _, rfl, hA10, hst10, by rw [htc]; exact aft.skip fun _ => hn⟩
        · exact ⟨s910, aas, acs, _, _, rfl, hA10, hst10, by rw [htc]; exact aft.skip fun h => absurd h hm⟩
      · obtain ⟨s8, aas, acs, v7, v8, rfl, hA8, hst8, aft⟩ := pv
        rw [List.length_map, Paired.length hst6, List.take_length] at aft
        have s08 := Same.trans s06 s8
        refine ⟨_, rfl, _, rfl, _, rfl, m, A, D, d, aas, acs, hidE d es, rfl, hM.same s08, ok, hl4, hA8, hst8, aft.sm, s8 _ _ (s6 _ _ hD5), hid_in, fun S2 as2 cs2 H9 s9 nS hS9 hst9 hR9 => ?_⟩
        refine ⟨Same.trans s6 (Same.trans s8 s9), S2, as2, cs2, _, _, _, _, rfl, hS9, hst9, ?_⟩
        rw [htk]
        exact fit_step ok hne hin fit aft hR9 hxe hxs (by omega)
    · obtain ⟨s6, S, as, cs, v3, v6, v7, v8, rfl, hS6, hst6, fit⟩ := pv
      rw [List.length_map, List.take_length] at fit
      have s06 := Same.trans s05 s6
      refine ⟨_, rfl, sz 0, fun L nL => ⟨1, _, by decide, empV_eq (same_upd nL _ _ hS6) upd_same, ?_⟩⟩
      have e1 : (if true = true then !decide ((as.map V.ref).length = 0) else decide ((as.map V.ref).length = 0)) = runB (seenD d es) row := by
        rw [if_pos rfl, fit_end ok hne hin fit, List.length_map, Paired.length hst6]
      rw [e1]
      exact qq _ (Same.trans s06 (same_upd nL))

end
end Pk

set_option Elab.async false
set_option linter.all false
set_option maxRecDepth 100000
set_option maxHeartbeats 4000000
/-! repr of a list whose items are plain data, or dicts of flat things -/
namespace PySem
section
variable {prog : Program} {w : World} {h₀ : Heap} {a : Addr}
theorem showsBy_list {o : Obj} {vs : Array Value} {n : Nat} {xs : List PyData} {bs₀ : List Addr} (h1 : h₀.get? a = some o) (h2 : o.cls = .type "list") (h3 : o.data = .seq vs n) (h4 : ReadsAll h₀ vs.toList xs bs₀) (hs : (PyData.list xs).showable = true) (hsm : PyData.hasDictAll xs = true → sysModules ∉ bs₀)
    (hsz : (PyData.list xs).shown.length ≤ sizeLine) : ∃ T idr, ShowsBy prog w h₀ a (.list xs) T idr := by
  have hz' : (listText (PyData.shownAll xs)).length ≤ sizeLine := by simpa only [PyData.shown] using hsz
  obtain ⟨bs, hb, hk⟩ := ReprAllK.of_readsAll (prog := prog) (w := w) h4 (by simpa [PyData.showable] using hs) hsm (fun t ht => Nat.le_trans (listText_mem_le ht) hz')
  have hna : a ∉ bs := not_mem_of_deeper (.list h1 h2 h3 h4) (by simp only [PyData.depth]; omega) hb
  refine ⟨"list", "list.__repr__", F.slot_list_repr.toG, F.slot_list_str, F.slot_list_format, fun s hk0 => ⟨o, hk0 _ _ h1, h2⟩, fun A E s Q hg hu hk0 hQ => ?_⟩
  simp only [PyData.depth] at hu
  simp only [PyData.shown] at hQ
  obtain ⟨l⟩ := vs
  cases l with
  | nil =>
    have h4' : ReadsAll h₀ [] xs _ := h4
    cases h4'
    simp only [PyData.shownAll, listText_nil] at hQ
    exact call_list_repr_empty ⟨o, hk0 _ _ h1, h2⟩ (hk0 _ _ h1) h3 (hQ s.heap _ _ fun _ _ e => e)
  | cons x l =>
    exact call_list_reprK h1 h2 h3 hna (by simpa using hk.length_eq) (fun i y e => hk.item i y (by simpa using e)) hg (fun b _ => Clear.nil b) hu hk0 hQ hz'
end
end PySem
namespace Pu
open PySem PySem.Spec PyProof.Rows L2
def shF : V → Bool
  | .non | .bl _ | .int _ | .str _ => true
  | _ => false
def dat : V → PyData
  | .bl b => .bool b
  | .int i => .int i
  | .str x => .str x
  | _ => .none
def datK : Key → PyData
  | .inl i => .int i
  | .inr x => .str x
theorem reads_flat {h : Heap} {v : V} {u : Value} (hv : shF v = true) (r : RelV v u) : Reads h u (dat v) [] := by
  cases v with
  | non => cases r; exact .none
  | bl b => cases r; exact .bool b
  | int i => obtain ⟨t, rfl⟩ := r; exact .int i t
  | str x => obtain ⟨t, rfl⟩ := r; exact .str x t
  | _ => cases hv
theorem reads_key {h : Heap} {k : Key} {u : Value} (hk : keyIs k u = true) : Reads h u (datK k) [] := by
  rcases keyIs_shape hk with ⟨i, t, rfl, rfl⟩ | ⟨x, t, rfl, rfl⟩
  · exact .int i t
  · exact .str x t
theorem reads_pairs {P : Program} {w : World} {h : Heap} : ∀ {kvs : List (Key × V)} {va : List (Key × Value)} {es : List DictEntry}, KV kvs va → Pairs (mixKind P w) es va → (∀ p ∈ kvs, shF p.2 = true) →
    ReadsAll h (es.map (·.key)) (kvs.map fun p => datK p.1) [] ∧ ReadsAll h (es.map (·.val)) (kvs.map fun p => dat p.2) []
  | [], _, _, .nil, .nil, _ => ⟨.nil, .nil⟩
  | p :: r, _, _, .cons ⟨e1, e2⟩ ht, .cons k1 k2 k3, hf => by
    obtain ⟨h1, h2⟩ := reads_pairs (h := h) ht k3 fun q hq => hf q (List.mem_cons_of_mem _ hq)
    rw [← e1] at k1
    have f := hf p List.mem_cons_self
    rw [← k2] at e2
    exact ⟨.cons (as := []) (bs := []) (reads_key k1) h1, .cons (as := []) (bs := []) (reads_flat f e2) h2⟩
/-- what is shown of a thing: plain data, or a dict of flat things -/
inductive Sh (K : PySem.W.Frag) (H : Hp) : V → PyData → Prop
  | plain {v : V} {d : PyData} : Dp K H v d → Sh K H v d
  | dct {q : Addr} {kvs : List (Key × V)} : H q = some (.dK kvs) → (∀ p ∈ kvs, shF p.2 = true) → Sh K H (.ref q) (.dict (kvs.map fun p => (datK p.1, dat p.2)))
theorem Sh.same {K : PySem.W.Frag} {H H' : Hp} {v : V} {d : PyData} (h : Sh K H v d) (s : Same H H') (hd : ∀ {v d}, Dp K H v d → Dp K H' v d) : Sh K H' v d := by
  cases h with
  | plain h => exact .plain (hd h)
  | dct h1 h2 => exact .dct (s _ _ h1) h2
def rRepr2 (K : PySem.W.Frag) : List V → Hp → VK → Prop := fun xs H Q => ∃ a u v d, xs = [.ref a] ∧ SqL K H a [.str u, v] ∧ Sh K H v d ∧ d.showable = true ∧ d.depth ≤ 30 ∧ (PyData.list [.str u, d]).shown.length ≤ sizeLine ∧ Q (.str (PyData.list [.str u, d]).shown) H
theorem repr2 {X : Cx} (K : PySem.W.Frag) (hG : X.A.guards = some []) (hu : X.A.units + 64 < cLine) (hK : X.K = K := by rfl) : CallR X (.builtin "repr") (rRepr2 K) := by
  subst hK
  intro pins s σ H xs us Q I r h
  obtain ⟨a, u, v, d, rfl, hq, hv, hs, hdp, hz, q⟩ := h
  obtain ⟨u0, rfl, ru⟩ := vals1 r
  cases ru
  obtain ⟨its, rv, ⟨o, n, ho, hc, _, hd⟩, _⟩ := I.list hq
  have key : ∃ as, ReadsAll s.heap its [.str u, d] as ∧ (PyData.hasDictAll [.str u, d] = true → sysModules ∉ as) := by
    cases rv with
    | cons r1 r2 =>
      cases r2 with
      | cons r2 r3 =>
        cases r3
        obtain ⟨t, rfl⟩ := r1
        cases hv with
        | plain hp =>
          obtain ⟨as, rd⟩ := Dp.reads I d v _ hp r2
          refine ⟨_, .cons (.str u t) (.cons rd .nil), fun z => ?_⟩
          rw [PyData.hasDictAll, PyData.hasDictAll, PyData.hasDictAll, Dp.noDict hp] at z
          simp [PyData.hasDict] at z
        | @dct qa kvs hq2 hf =>
          cases r2
          obtain ⟨_, ya, va, ra, ob, es, ep, e1, e2, e3, _, e5, _⟩ := (show ObjOk X.prog X.w H s.heap qa (.dK kvs) from I.hok qa _ hq2)
          obtain ⟨k1, k2⟩ := reads_pairs (h := s.heap) ra e5 hf
          have rd : Reads s.heap (.ref qa) (.dict (kvs.map fun p => (datK p.1, dat p.2))) (qa :: [] ++ []) := .dict e1 e2.1 e3 (by rw [List.map_map]; exact k1) (by rw [List.map_map]; exact k2)
          refine ⟨_, .cons (.str u t) (.cons rd .nil), fun _ hm => ?_⟩
          simp at hm
          rw [hm] at ya
          simp at ya
  obtain ⟨as, rd, hsm⟩ := key
  have grown : ∀ (h' : Heap) (u' tk : Tok), (∀ b o, s.heap.get? b = some o → h'.get? b = some o) → EP X pins σ Q (.str (PyData.list [.str u, d]).shown u') { s with heap := h', toks := tk } := fun h' u' tk k =>
    ⟨.str (PyData.list [.str u, d]).shown, H, I.turnedL (ch := []) (fun b o _ e => k b o e) (fun _ hb => absurd hb List.not_mem_nil), ⟨u', rfl⟩, q⟩
  obtain ⟨T, idr, S⟩ := showsBy_list (prog := X.prog) (w := X.w) (a := a) ho hc hd rd (by simp [PyData.showable, PyData.showableAll, hs]) hsm hz
  have hdep : (PyData.list [.str u, d]).depth ≤ 31 := by
    simp only [PyData.depth, PyData.depthAll]
    omega
  exact call_repr_slot (by omega) (S.typeIs s fun _ _ e => e) S.slotRepr (S.call X.A.in1 _ s _ hG (by show X.A.units + 1 + _ < cLine; omega) (fun _ _ e => e) fun h' u' tk hk => ⟨_, _, rfl, grown h' u' tk hk⟩)
end Pu

set_option Elab.async false
set_option linter.all false
set_option maxRecDepth 100000
set_option maxHeartbeats 4000000
/-! how long the shows are -/
namespace Pu
open PySem PySem.Spec PyProof.Rows L2
/-- short enough to be shown -/
structure ShOk (D : PyData) : Prop where
  lv : D.leavesShort 13 = true
  bk : D.bulk ≤ 100000
  sh : D.showable = true
  dp : D.depth ≤ 20
structure ShAll (Ds : List PyData) (n : Nat) : Prop where
  lv : PyData.leavesShortAll 13 Ds = true
  bk : PyData.bulkAll Ds ≤ n
  sh : PyData.showableAll Ds = true
  dp : PyData.depthAll Ds ≤ 10
theorem ShAll.nil : ShAll [] 0 := ⟨rfl, Nat.le_refl _, rfl, by decide⟩
theorem ShAll.cons {D : PyData} {Ds : List PyData} {n k : Nat} (h1 : D.leavesShort 13 = true) (h2 : D.bulk + 1 ≤ k) (h3 : D.showable = true) (h4 : D.depth ≤ 10) (h : ShAll Ds n) : ShAll (D :: Ds) (k + n) := by
  refine ⟨?_, ?_, ?_, ?_⟩
  · rw [PyData.leavesShortAll, h1, h.lv]; rfl
  · rw [PyData.bulkAll]; have := h.bk; omega
  · rw [PyData.showableAll, h3, h.sh]; rfl
  · rw [PyData.depthAll]; have := h.dp; omega
theorem ShAll.list {Ds : List PyData} {n : Nat} (h : ShAll Ds n) (hn : n ≤ 100000) : ShOk (.list Ds) := by
  refine ⟨?_, ?_, ?_, ?_⟩
  · rw [PyData.leavesShort]; exact h.lv
  · rw [PyData.bulk]; exact Nat.le_trans h.bk hn
  · rw [PyData.showable]; exact h.sh
  · rw [PyData.depth]; have := h.dp; omega
theorem ShOk.pair {D : PyData} {u : Str} (h : ShOk D) (hu : (PyData.str u).leavesShort 13 = true) (hu2 : u.cps.size ≤ 100) : D.showable = true ∧ D.depth ≤ 30 ∧ (PyData.list [.str u, D]).shown.length ≤ sizeLine := by
  refine ⟨h.sh, by have := h.dp; omega, PyData.shown_fits_bulk (B := 13) (by decide) (by decide) ?_ ?_⟩
  · rw [PyData.leavesShort, PyData.leavesShortAll, PyData.leavesShortAll, PyData.leavesShortAll, hu, h.lv]; rfl
  · rw [PyData.bulk, PyData.bulkAll, PyData.bulkAll, PyData.bulkAll, PyData.bulk]
    have := h.bk
    have : (2 : Nat) ^ 20 = 1048576 := by decide
    omega
def nmS (e : Str) : Prop := (PyData.str e).leavesShort 13 = true ∧ e.cps.size ≤ 20
theorem sh_str {e : Str} (h : nmS e) : ShOk (.str e) := ⟨h.1, by rw [PyData.bulk]; have := h.2; omega, rfl, by rw [PyData.depth]; decide⟩
theorem sh_non : ShOk .none := ⟨rfl, by decide, rfl, by decide⟩
theorem sh_bl {c : Bool} : ShOk (.bool c) := ⟨rfl, by rw [PyData.bulk]; decide, rfl, by rw [PyData.depth]; decide⟩
/-- the items of an odd run: names, None, lists of one name -/
def OddItem (b : Addr) (H : Hp) (x : V) : Prop := (∃ e, x = .str e ∧ nmS e) ∨ x = .non ∨ ∃ g e, x = .ref g ∧ g ≠ b ∧ H g = some (.lst [.str e]) ∧ nmS e
theorem odd_data {K : PySem.W.Frag} {b : Addr} {H : Hp} : ∀ {xs : List V}, (∀ x ∈ xs, OddItem b H x) → ∃ Ds, (∀ H', Same H H' → DpAll K H' xs Ds) ∧ ShAll Ds (40 * xs.length)
  | [], _ => ⟨[], fun _ _ => .nil, .nil⟩
  | x :: r, h => by
    obtain ⟨Ds, h1, h2⟩ := odd_data (K := K) (xs := r) fun y hy => h y (List.mem_cons_of_mem _ hy)
    have hk : ∀ D : PyData, ShAll (D :: Ds) (40 + 40 * r.length) → ShAll (D :: Ds) (40 * (x :: r).length) := fun D hD => by
      rw [List.length_cons, Nat.mul_succ, Nat.add_comm]
      exact hD
    rcases h x List.mem_cons_self with ⟨e, rfl, he⟩ | rfl | ⟨g, e, rfl, _, hg, he⟩
    · exact ⟨_, fun H' s => .cons (.str e) (h1 H' s), hk _ (.cons he.1 (by rw [PyData.bulk]; have := he.2; omega) rfl (by rw [PyData.depth]; decide) h2)⟩
    · exact ⟨_, fun H' s => .cons .non (h1 H' s), hk _ (.cons rfl (by decide) rfl (by decide) h2)⟩
    · have h3 : ShAll [.str e] (30 + 0) := .cons he.1 (by rw [PyData.bulk]; have := he.2; omega) rfl (by rw [PyData.depth]; decide) .nil
      refine ⟨_, fun H' s => .cons (.lst (.inl (.inl (s _ _ hg))) (.cons (.str e) .nil)) (h1 H' s), hk _ (.cons (by rw [PyData.leavesShort]; exact h3.lv) ?_ (by rw [PyData.showable]; exact h3.sh) ?_ h2)⟩
      · rw [PyData.bulk]
        have := h3.bk
        omega
      · rw [PyData.depth, PyData.depthAll, PyData.depthAll, PyData.depth]
        decide
theorem neg_data {es : List Str} (h : ∀ e ∈ es, nmS e) : PyData.leavesShortKv 13 (es.map fun e => (PyData.str e, PyData.int (-1))) = true ∧ PyData.bulkKv (es.map fun e => (PyData.str e, PyData.int (-1))) ≤ 30 * es.length ∧ PyData.showableKv (es.map fun e => (PyData.str e, PyData.int (-1))) = true ∧ PyData.depthKv (es.map fun e => (PyData.str e, PyData.int (-1))) = 0 := by
  induction es with
  | nil => exact ⟨rfl, Nat.zero_le _, rfl, rfl⟩
  | cons x r ih =>
    obtain ⟨h1, h2, h3, h4⟩ := ih fun e he => h e (List.mem_cons_of_mem _ he)
    obtain ⟨k1, k2⟩ := h x List.mem_cons_self
    refine ⟨?_, ?_, ?_, ?_⟩
    · rw [List.map_cons, PyData.leavesShortKv, k1, h1]
      decide +kernel
    · rw [List.map_cons, PyData.bulkKv, List.length_cons, PyData.bulk, PyData.bulk, Nat.mul_succ]
      omega
    · rw [List.map_cons, PyData.showableKv, h3, PyData.showable, PyData.showable]
      decide +kernel
    · rw [List.map_cons, PyData.depthKv, h4]
      simp [PyData.depth]
end Pu

set_option Elab.async false
set_option linter.all false
set_option maxRecDepth 100000
set_option maxHeartbeats 4000000
/-! repr of a list that holds a dict whose values are plain data, or empty dicts: each item by itself -/
namespace PySem
section
variable {prog : Program} {w : World} {h₀ : Heap} {a : Addr}
structure RK (prog : Program) (w : World) (h₀ : Heap) (v : Value) (d : PyData) : Prop where
  rd : ∃ as, Reads h₀ v d as
  rk : d.showable = true → d.shown.length ≤ sizeLine → ∃ bs, ReadAtMost h₀ d.depth bs ∧ ReprK prog w bs h₀ d.depth v d.shown
theorem RK.of_reads {v : Value} {d : PyData} {as : List Addr} (r : Reads h₀ v d as) (hsm : d.hasDict = true → sysModules ∉ as) : RK prog w h₀ v d := ⟨⟨as, r⟩, fun hs hz => ReprK.of_reads r hs hsm hz⟩
inductive RKs (prog : Program) (w : World) (h₀ : Heap) : List Value → List PyData → Prop
  | nil : RKs prog w h₀ [] []
  | cons {v : Value} {d : PyData} {vs : List Value} {ds : List PyData} (h : RK prog w h₀ v d) (t : RKs prog w h₀ vs ds) : RKs prog w h₀ (v :: vs) (d :: ds)
theorem RKs.reads {vs : List Value} {ds : List PyData} (h : RKs prog w h₀ vs ds) : ∃ as, ReadsAll h₀ vs ds as := by
  induction h with
  | nil => exact ⟨_, .nil⟩
  | cons r _ ih =>
    obtain ⟨as, ha⟩ := r.rd
    obtain ⟨bs, hb⟩ := ih
    exact ⟨_, .cons ha hb⟩
theorem RKs.all : ∀ {vs : List Value} {ds : List PyData}, RKs prog w h₀ vs ds → PyData.showableAll ds = true → (∀ t ∈ PyData.shownAll ds, t.length ≤ sizeLine) → ∃ bs, ReadAtMost h₀ (PyData.depthAll ds) bs ∧ ReprAllK prog w bs h₀ (PyData.depthAll ds) vs (PyData.shownAll ds)
  | _, _, .nil, _, _ => ⟨[], (fun _ h => nomatch h), by simp only [PyData.shownAll]; exact .nil⟩
  | _, _, .cons (d := d) (ds := ds) r rs, hs, hz => by
    have hs' : d.showable = true ∧ PyData.showableAll ds = true := by simpa [PyData.showableAll] using hs
    obtain ⟨b1, hb1, k1⟩ := r.rk hs'.1 (hz _ (by simp only [PyData.shownAll]; exact List.mem_cons_self ..))
    obtain ⟨b2, hb2, k2⟩ := RKs.all rs hs'.2 (fun t ht => hz t (by simp only [PyData.shownAll]; exact List.mem_cons_of_mem _ ht))
    refine ⟨b1 ++ b2, fun b hm => ?_, ?_⟩
    · simp only [PyData.depthAll]
      rcases List.mem_append.mp hm with hm | hm
      · obtain ⟨d', as', r', hd'⟩ := hb1 b hm
        exact ⟨d', as', r', Nat.le_trans hd' (Nat.le_max_left _ _)⟩
      · obtain ⟨d', as', r', hd'⟩ := hb2 b hm
        exact ⟨d', as', r', Nat.le_trans hd' (Nat.le_max_right _ _)⟩
    · simp only [PyData.depthAll, PyData.shownAll]
      exact .cons ((k1.more fun b hb => List.mem_append_left _ hb).level_le (Nat.le_max_left _ _)) (k2.more_le (fun b hb => List.mem_append_right _ hb) (Nat.le_max_right _ _))
theorem RK.dict {o : Obj} {es : Array DictEntry} {n : Nat} {kvs : List (PyData × PyData)} (h1 : h₀.get? a = some o) (h2 : o.cls = .type "dict") (h3 : o.data = .dict es n) (h4 : RKs prog w h₀ (es.toList.map (·.key)) (kvs.map (·.1))) (h5 : RKs prog w h₀ (es.toList.map (·.val)) (kvs.map (·.2)))
    (hsys : a ≠ sysModules) : RK prog w h₀ (.ref a) (.dict kvs) := by
  obtain ⟨as, r4⟩ := h4.reads
  obtain ⟨bs, r5⟩ := h5.reads
  have r : Reads h₀ (.ref a) (.dict kvs) _ := .dict h1 h2 h3 r4 r5
  refine ⟨⟨_, r⟩, fun hs hz => ?_⟩
  have hz' : (dictText (PyData.shownKv kvs)).length ≤ sizeLine := by simpa only [PyData.shown] using hz
  obtain ⟨hs1, hs2⟩ := PyData.showableKv_split kvs (by simpa [PyData.showable] using hs)
  obtain ⟨b1, hb1, k1⟩ := h4.all hs1 (fun t ht => let ⟨p, hp, hl⟩ := PyData.shownKv_key_le kvs t ht; Nat.le_trans hl (Nat.le_trans (dictText_mem_le hp) hz'))
  obtain ⟨b2, hb2, k2⟩ := h5.all hs2 (fun t ht => let ⟨p, hp, hl⟩ := PyData.shownKv_val_le kvs t ht; Nat.le_trans hl (Nat.le_trans (dictText_mem_le hp) hz'))
  have hb : ReadAtMost h₀ (PyData.depthKv kvs) (b1 ++ b2) := (hb1.mono (PyData.depthAll_keys_le kvs)).append (hb2.mono (PyData.depthAll_vals_le kvs))
  have hna : a ∉ b1 ++ b2 := not_mem_of_deeper r (by simp only [PyData.depth]; omega) hb
  have hs' : (a == sysModules) = false := beq_eq_false_iff_ne.mpr hsys
  refine ⟨a :: (b1 ++ b2), ReadAtMost.cons r (by simp only [PyData.depth]; omega) hb, ?_⟩
  simp only [PyData.depth, PyData.shown, PyData.shownKv_eq]
  exact ReprK.dict h1 h2 h3 hs' hna (ReprEntriesK.of_two es.toList _ _
    (k1.more_le (fun b hb => List.mem_append_left _ hb) (PyData.depthAll_keys_le kvs)) (k2.more_le (fun b hb => List.mem_append_right _ hb) (PyData.depthAll_vals_le kvs)))
theorem showsBy_listRK {o : Obj} {vs : Array Value} {n : Nat} {xs : List PyData} (h1 : h₀.get? a = some o) (h2 : o.cls = .type "list") (h3 : o.data = .seq vs n) (h4 : RKs prog w h₀ vs.toList xs) (hs : (PyData.list xs).showable = true)
    (hsz : (PyData.list xs).shown.length ≤ sizeLine) : ∃ T idr, ShowsBy prog w h₀ a (.list xs) T idr := by
  have hz' : (listText (PyData.shownAll xs)).length ≤ sizeLine := by simpa only [PyData.shown] using hsz
  obtain ⟨bs, hb, hk⟩ := h4.all (by simpa [PyData.showable] using hs) (fun t ht => Nat.le_trans (listText_mem_le ht) hz')
  obtain ⟨as, r4⟩ := h4.reads
  have hna : a ∉ bs := not_mem_of_deeper (.list h1 h2 h3 r4) (by simp only [PyData.depth]; omega) hb
  refine ⟨"list", "list.__repr__", F.slot_list_repr.toG, F.slot_list_str, F.slot_list_format, fun s hk0 => ⟨o, hk0 _ _ h1, h2⟩, fun A E s Q hg hu hk0 hQ => ?_⟩
  simp only [PyData.depth] at hu
  simp only [PyData.shown] at hQ
  obtain ⟨l⟩ := vs
  cases l with
  | nil =>
    have h4' : ReadsAll h₀ [] xs _ := r4
    cases h4'
    simp only [PyData.shownAll, listText_nil] at hQ
    exact call_list_repr_empty ⟨o, hk0 _ _ h1, h2⟩ (hk0 _ _ h1) h3 (hQ s.heap _ _ fun _ _ e => e)
  | cons x l =>
    exact call_list_reprK h1 h2 h3 hna (by simpa using hk.length_eq) (fun i y e => hk.item i y (by simpa using e)) hg (fun b _ => Clear.nil b) hu hk0 hQ hz'
end
end PySem
namespace Pu
open PySem PySem.Spec PyProof.Rows L2
/-- a value of a dict: plain data, or an empty dict -/
def Sv (K : PySem.W.Frag) (H : Hp) (v : V) (D : PyData) : Prop := Dp K H v D ∨ ∃ g, v = .ref g ∧ H g = some (.dK []) ∧ D = .dict []
abbrev Svs (K : PySem.W.Frag) (H : Hp) : List (Key × V) → List (PyData × PyData) → Prop := Paired fun p kd => kd.1 = datK p.1 ∧ Sv K H p.2 kd.2
inductive Sh3 (K : PySem.W.Frag) (H : Hp) : V → PyData → Prop
  | plain {v : V} {d : PyData} : Dp K H v d → Sh3 K H v d
  | dct {q : Addr} {kvs : List (Key × V)} {L : List (PyData × PyData)} : H q = some (.dK kvs) → Svs K H kvs L → Sh3 K H (.ref q) (.dict L)
section
variable {X : Cx} {pins : List (Addr × Obj)} {σ : L2.St} {H : Hp} {s : Shared}
theorem rk_dp (I : Inv X pins σ H s) {v : V} {d : PyData} {u : Value} (h : Dp X.K H v d) (r : RelV v u) : RK X.prog X.w s.heap u d := by
  obtain ⟨as, rd⟩ := Dp.reads I d v _ h r
  exact .of_reads rd (fun z => by rw [Dp.noDict h] at z; cases z)
theorem rk_sv (I : Inv X pins σ H s) {v : V} {d : PyData} {u : Value} (h : Sv X.K H v d) (r : RelV v u) : RK X.prog X.w s.heap u d := by
  rcases h with h | ⟨g, rfl, hg, rfl⟩
  · exact rk_dp I h r
  · cases r
    obtain ⟨_, ya, va, ra, ob, es, ep, e1, e2, e3, _, e5, _⟩ := (show ObjOk X.prog X.w H s.heap g (.dK []) from I.hok g _ hg)
    cases ra
    have hes : es.toList = [] := by
      cases h : es.toList with
      | nil => rfl
      | cons x l =>
        rw [h] at e5
        cases e5
    exact RK.dict e1 e2.1 e3 (by rw [hes]; exact .nil) (by rw [hes]; exact .nil) (fun z => by rw [z] at ya; simp at ya)
theorem rks_pairs (I : Inv X pins σ H s) : ∀ {kvs : List (Key × V)} {va : List (Key × Value)} {es : List DictEntry} {L : List (PyData × PyData)}, KV kvs va → Pairs (mixKind X.prog X.w) es va → Svs X.K H kvs L →
    RKs X.prog X.w s.heap (es.map (·.key)) (L.map (·.1)) ∧ RKs X.prog X.w s.heap (es.map (·.val)) (L.map (·.2))
  | [], _, _, _, .nil, .nil, .nil => ⟨.nil, .nil⟩
  | p :: r, _, _, _, .cons ⟨e1, e2⟩ ht, .cons k1 k2 k3, .cons hf hr => by
    obtain ⟨h1, h2⟩ := rks_pairs I ht k3 hr
    rw [← e1] at k1
    rw [← k2] at e2
    refine ⟨.cons ?_ h1, .cons (rk_sv I hf.2 e2) h2⟩
    have z := hf.1
    show RK _ _ _ _ (Prod.fst _)
    rw [z]
    exact .of_reads (reads_key k1) (fun _ => List.not_mem_nil)
end
def rRepr3 (K : PySem.W.Frag) : List V → Hp → VK → Prop := fun xs H Q => ∃ a u v d, xs = [.ref a] ∧ SqL K H a [.str u, v] ∧ Sh3 K H v d ∧ d.showable = true ∧ d.depth ≤ 30 ∧ (PyData.list [.str u, d]).shown.length ≤ sizeLine ∧ Q (.str (PyData.list [.str u, d]).shown) H
theorem repr3 {X : Cx} (K : PySem.W.Frag) (hG : X.A.guards = some []) (hu : X.A.units + 64 < cLine) (hK : X.K = K := by rfl) : CallR X (.builtin "repr") (rRepr3 K) := by
  subst hK
  intro pins s σ H xs us Q I r h
  obtain ⟨a, u, v, d, rfl, hq, hv, hs, hdp, hz, q⟩ := h
  obtain ⟨u0, rfl, ru⟩ := vals1 r
  cases ru
  obtain ⟨its, rv, ⟨o, n, ho, hc, _, hd⟩, _⟩ := I.list hq
  have key : RKs X.prog X.w s.heap its [.str u, d] := by
    cases rv with
    | cons r1 r2 =>
      cases r2 with
      | cons r2 r3 =>
        cases r3
        obtain ⟨t, rfl⟩ := r1
        refine .cons (.of_reads (.str u t) (fun z => by simp [PyData.hasDict] at z)) (.cons ?_ .nil)
        cases hv with
        | plain hp => exact rk_dp I hp r2
        | @dct qa kvs L hq2 hf =>
          cases r2
          obtain ⟨_, ya, va, ra, ob, es, ep, e1, e2, e3, _, e5, _⟩ := (show ObjOk X.prog X.w H s.heap qa (.dK kvs) from I.hok qa _ hq2)
          obtain ⟨k1, k2⟩ := rks_pairs I ra e5 hf
          exact RK.dict e1 e2.1 e3 k1 k2 (fun z => by rw [z] at ya; simp at ya)
  have grown : ∀ (h' : Heap) (u' tk : Tok), (∀ b o, s.heap.get? b = some o → h'.get? b = some o) → EP X pins σ Q (.str (PyData.list [.str u, d]).shown u') { s with heap := h', toks := tk } := fun h' u' tk k =>
    ⟨.str (PyData.list [.str u, d]).shown, H, I.turnedL (ch := []) (fun b o _ e => k b o e) (fun _ hb => absurd hb List.not_mem_nil), ⟨u', rfl⟩, q⟩
  obtain ⟨T, idr, S⟩ := showsBy_listRK (prog := X.prog) (w := X.w) (a := a) ho hc hd key (by simp [PyData.showable, PyData.showableAll, hs]) hz
  have hdep : (PyData.list [.str u, d]).depth ≤ 31 := by
    simp only [PyData.depth, PyData.depthAll]
    omega
  exact call_repr_slot (by omega) (S.typeIs s fun _ _ e => e) S.slotRepr (S.call X.A.in1 _ s _ hG (by show X.A.units + 1 + _ < cLine; omega) (fun _ _ e => e) fun h' u' tk hk => ⟨_, _, rfl, grown h' u' tk hk⟩)
end Pu

set_option Elab.async false
set_option linter.all false
set_option maxRecDepth 100000
set_option maxHeartbeats 4000000
/-! how long the shows of dicts with nested values and long integers are -/
namespace Pu
open PySem PySem.Spec PyProof.Rows L2
structure Lf (D : PyData) : Prop where
  lv : D.leavesShort 41 = true
  bk : D.bulk ≤ 20
  sh : D.showable = true
  dp : D.depth ≤ 5
structure ShD (D : PyData) : Prop where
  lv : D.leavesShort 41 = true
  bk : D.bulk ≤ 1000
  sh : D.showable = true
  dp : D.depth ≤ 20
theorem Lf.shd {D : PyData} (h : Lf D) : ShD D := ⟨h.lv, Nat.le_trans h.bk (by decide), h.sh, Nat.le_trans h.dp (by decide)⟩
theorem kv_data : ∀ {L : List (PyData × PyData)}, (∀ kd ∈ L, Lf kd.1 ∧ Lf kd.2) → PyData.leavesShortKv 41 L = true ∧ PyData.bulkKv L ≤ 60 * L.length ∧ PyData.showableKv L = true ∧ PyData.depthKv L ≤ 5
  | [], _ => ⟨rfl, Nat.zero_le _, rfl, by decide⟩
  | kd :: r, h => by
    obtain ⟨h1, h2, h3, h4⟩ := kv_data (L := r) fun kd hk => h kd (List.mem_cons_of_mem _ hk)
    obtain ⟨k, v⟩ := kd
    obtain ⟨k1, k2⟩ := h _ List.mem_cons_self
    have b1 : k.bulk ≤ 20 := k1.bk
    have b2 : v.bulk ≤ 20 := k2.bk
    have d1 : k.depth ≤ 5 := k1.dp
    have d2 : v.depth ≤ 5 := k2.dp
    refine ⟨?_, ?_, ?_, ?_⟩
    · rw [PyData.leavesShortKv, k1.lv, k2.lv, h1]; rfl
    · rw [PyData.bulkKv, List.length_cons]
      omega
    · rw [PyData.showableKv, k1.sh, k2.sh, h3]; rfl
    · rw [PyData.depthKv]
      omega
theorem ShD.dict {L : List (PyData × PyData)} (h : ∀ kd ∈ L, Lf kd.1 ∧ Lf kd.2) (hl : L.length ≤ 16) : ShD (.dict L) := by
  obtain ⟨h1, h2, h3, h4⟩ := kv_data h
  exact ⟨by rw [PyData.leavesShort]; exact h1, by rw [PyData.bulk]; omega, by rw [PyData.showable]; exact h3, by rw [PyData.depth]; omega⟩
theorem ShD.pair {D : PyData} {u : Str} (h : ShD D) (hu : (PyData.str u).leavesShort 41 = true) (hu2 : u.cps.size ≤ 100) : D.showable = true ∧ D.depth ≤ 30 ∧ (PyData.list [.str u, D]).shown.length ≤ sizeLine := by
  refine ⟨h.sh, by have := h.dp; omega, ?_⟩
  have h1 := PyData.shown_le_bulk 41 (by decide) (.list [.str u, D]) (by rw [PyData.leavesShort, PyData.leavesShortAll, PyData.leavesShortAll, PyData.leavesShortAll, hu, h.lv]; rfl)
  have h2 : (PyData.list [.str u, D]).bulk ≤ 2000 := by
    rw [PyData.bulk, PyData.bulkAll, PyData.bulkAll, PyData.bulkAll, PyData.bulk]
    have := h.bk
    omega
  refine Nat.le_trans h1 ?_
  rw [sizeLine_eq]
  omega
theorem lf_int {i : Int} (h : i.natAbs < 2 ^ 120) : Lf (.int i) := by
  have h40 : i.natAbs < 10 ^ 40 := Nat.lt_trans h (by decide)
  refine ⟨?_, by rw [PyData.bulk]; decide, ?_, by rw [PyData.depth]; decide⟩
  · rw [PyData.leavesShort, PyData.shown_int]
    exact decide_eq_true (int_len h40)
  · rw [PyData.showable]
    have h1 : i.natAbs.log2 < 120 := by
      by_cases z : i.natAbs = 0
      · rw [z]
        decide +kernel
      · exact (Nat.log2_lt z).mpr h
    exact decide_eq_true (Nat.lt_trans h1 (by decide))
theorem lf_str {e : Str} (h : nmS e) (h2 : e.cps.size ≤ 18) : Lf (.str e) := ⟨by have := h.1; rw [PyData.leavesShort] at this ⊢; exact this, by rw [PyData.bulk]; omega, rfl, by rw [PyData.depth]; decide⟩
theorem lf_none : Lf .none := ⟨rfl, by decide, rfl, by decide⟩
theorem lf_bool {c : Bool} : Lf (.bool c) := ⟨rfl, by rw [PyData.bulk]; decide, rfl, by rw [PyData.depth]; decide⟩
theorem lf_tup : Lf (.tuple [.int 1]) := ⟨by decide +kernel, by decide +kernel, by decide +kernel, by decide +kernel⟩
theorem lf_lst : Lf (.list []) := ⟨by decide +kernel, by decide +kernel, by decide +kernel, by decide +kernel⟩
theorem lf_dct : Lf (.dict []) := ⟨by decide +kernel, by decide +kernel, by decide +kernel, by decide +kernel⟩
end Pu

set_option Elab.async false
set_option linter.all false
set_option maxRecDepth 100000
set_option maxHeartbeats 4000000
/-! shows of lists of strings, and of lists of such -/
namespace Pu
open PySem PySem.Spec PyProof.Rows L2
theorem ShOk.shw {D : PyData} (h : ShOk D) : D.showable = true ∧ D.depth ≤ 40 ∧ D.shown.length ≤ sizeLine := by
  refine ⟨h.sh, by have := h.dp; omega, PyData.shown_fits_bulk (B := 13) (by decide) (by decide) h.lv ?_⟩
  have := h.bk
  have : (2 : Nat) ^ 20 = 1048576 := by decide
  omega
def strsD (es : List Str) : PyData := .list (es.map PyData.str)
def rowsD (rs : List (List Str)) : PyData := .list (rs.map strsD)
theorem strs_sh : ∀ {es : List Str}, (∀ e ∈ es, nmS e) → ShAll (es.map PyData.str) (30 * es.length)
  | [], _ => ShAll.nil
  | e :: r, h => by
    rw [List.length_cons, Nat.mul_succ, Nat.add_comm]
    have he := h e (List.mem_cons_self ..)
    exact .cons he.1 (by rw [PyData.bulk]; have := he.2; omega) rfl (by rw [PyData.depth]; decide) (strs_sh fun x hx => h x (List.mem_cons_of_mem _ hx))
theorem rows_sh : ∀ {rs : List (List Str)}, (∀ r ∈ rs, r.length ≤ 100 ∧ ∀ e ∈ r, nmS e) → ShAll (rs.map strsD) (4000 * rs.length)
  | [], _ => ShAll.nil
  | r :: rs, h => by
    rw [List.length_cons, Nat.mul_succ, Nat.add_comm]
    obtain ⟨h1, h2⟩ := h r (List.mem_cons_self ..)
    have h3 := strs_sh h2
    refine .cons (D := strsD r) (by unfold strsD; rw [PyData.leavesShort]; exact h3.lv) ?_ (by unfold strsD; rw [PyData.showable]; exact h3.sh) ?_ (rows_sh fun x hx => h x (List.mem_cons_of_mem _ hx))
    · unfold strsD
      rw [PyData.bulk]
      have := h3.bk
      omega
    · unfold strsD
      rw [PyData.depth]
      have : PyData.depthAll (r.map PyData.str) ≤ 1 := by
        clear h3 h1 h
        induction r with
        | nil => exact Nat.zero_le _
        | cons x r ih =>
          rw [List.map_cons, PyData.depthAll, PyData.depth]
          have := ih fun y hy => h2 y (List.mem_cons_of_mem _ hy)
          omega
      omega
theorem strsD_ok {es : List Str} (h : ∀ e ∈ es, nmS e) (hl : es.length ≤ 1000) : (strsD es).showable = true ∧ (strsD es).depth ≤ 40 ∧ (strsD es).shown.length ≤ sizeLine := (ShAll.list (strs_sh h) (by omega)).shw
theorem rowsD_ok {rs : List (List Str)} (h : ∀ r ∈ rs, r.length ≤ 100 ∧ ∀ e ∈ r, nmS e) (hl : rs.length ≤ 20) : (rowsD rs).showable = true ∧ (rowsD rs).depth ≤ 40 ∧ (rowsD rs).shown.length ≤ sizeLine := (ShAll.list (rows_sh h) (by omega)).shw
theorem strs_all {K : PySem.W.Frag} {H : Hp} : ∀ {es : List Str}, DpAll K H (es.map V.str) (es.map PyData.str)
  | [] => .nil
  | e :: r => .cons (.str e) strs_all
theorem strs_dp {K : PySem.W.Frag} {H : Hp} {a : Addr} {es : List Str} (h : H a = some (.lst (es.map V.str))) : Dp K H (.ref a) (strsD es) := .lst (.inl (.inl h)) strs_all
theorem rows_all {K : PySem.W.Frag} {H : Hp} {as : List Addr} {rs : List (List Str)} (h : Paired (fun (a : Addr) (r : List Str) => H a = some (.lst (r.map V.str))) as rs) : DpAll K H (as.map V.ref) (rs.map strsD) := by
  induction h with
  | nil => exact .nil
  | cons r _ ih => exact .cons (strs_dp r) ih
theorem rows_dp {K : PySem.W.Frag} {H : Hp} {a : Addr} {as : List Addr} {rs : List (List Str)} (h : H a = some (.lst (as.map V.ref))) (hG : Paired (fun (a : Addr) (r : List Str) => H a = some (.lst (r.map V.str))) as rs) : Dp K H (.ref a) (rowsD rs) := .lst (.inl (.inl h)) (rows_all hG)
end Pu

set_option Elab.async false
set_option linter.all false
set_option maxRecDepth 100000
set_option maxHeartbeats 4000000
/-! shows of sums; how great sums are -/
namespace Pu
open PySem PySem.Spec PyProof.Rows L2
theorem ShD.shw {D : PyData} (h : ShD D) : D.showable = true ∧ D.depth ≤ 40 ∧ D.shown.length ≤ sizeLine := by
  refine ⟨h.sh, by have := h.dp; omega, ?_⟩
  have h1 := PyData.shown_le_bulk 41 (by decide) D h.lv
  have h2 := h.bk
  refine Nat.le_trans h1 ?_
  rw [sizeLine_eq]
  omega
def optD : Option Int → PyData
  | none => .none
  | some v => .int v
theorem optD_ok {o : Option Int} (h : ∀ v, o = some v → 0 ≤ v ∧ v ≤ 10 ^ 36) : (optD o).showable = true ∧ (optD o).depth ≤ 40 ∧ (optD o).shown.length ≤ sizeLine := by
  cases o with
  | none => exact lf_none.shd.shw
  | some v =>
    obtain ⟨h1, h2⟩ := h v rfl
    refine (lf_int (i := v) ?_).shd.shw
    have : (10 : Int) ^ 36 < 2 ^ 120 := by decide
    omega
def BdR (k : SR) (m : Int) : Prop := ∀ l v, getR k l = some v → v ≤ m
theorem BdR.step {k : SR} {m M : Int} (h : BdR k m) {r : LRow} (hr : r.2.2 ≤ M) (hM : 0 ≤ M) : BdR (bfStep k r) (m + M) := fun l v hv => by
  rcases bfStep_get k r l with ⟨a, ha, _, _, h1⟩ | h1
  · rw [h1] at hv
    cases hv
    have := h _ _ ha
    omega
  · rw [h1] at hv
    have := h _ _ hv
    omega
theorem BdR.turn {M : Int} (hM : 0 ≤ M) : ∀ {rs : List LRow} {k : SR} {m : Int}, BdR k m → (∀ r ∈ rs, r.2.2 ≤ M) → BdR (bfTurn rs k) (m + rs.length * M)
  | [], k, m, h, _ => by
    have e : m + (([] : List LRow).length : Int) * M = m := by simp
    rw [e]
    exact h
  | r :: rs, k, m, h, hr => by
    have := BdR.turn hM (rs := rs) (h.step (hr r (List.mem_cons_self ..)) hM) fun x hx => hr x (List.mem_cons_of_mem _ hx)
    have e : m + ((r :: rs).length : Int) * M = m + M + (rs.length : Int) * M := by
      rw [List.length_cons, Int.natCast_add, Int.add_mul]
      omega
    rw [e]
    exact this
theorem BdR.all {M : Int} (hM : 0 ≤ M) {rs : List LRow} (hr : ∀ r ∈ rs, r.2.2 ≤ M) {f : Str} : ∀ n, BdR (bfN rs n [(f, 0)]) ((n * rs.length : Nat) * M)
  | 0 => fun l v hv => by
    have hv : (if f = l then some (0 : Int) else none) = some v := hv
    split at hv
    · cases hv
      rw [Nat.zero_mul]
      omega
    · cases hv
  | n + 1 => by
    have := (BdR.all hM hr (f := f) n).turn hM hr
    have e : (((n + 1) * rs.length : Nat) : Int) * M = ((n * rs.length : Nat) : Int) * M + (rs.length : Int) * M := by
      rw [Nat.succ_mul, Int.natCast_add, Int.add_mul]
    rw [e]
    exact this
end Pu

set_option Elab.async false
set_option linter.all false
set_option maxRecDepth 100000
set_option maxHeartbeats 4000000
namespace Pk
open PySem PySem.Spec PyProof.Rows L2 Pu
abbrev s_law : Stmt := topS 84
theorem sc_law : FnScope ["_law_script", "_law_k", "_law_box_here", "_law_model_here", "_law_names_here", "_law_sheet", "_law_told", "_law_row", "_law_rolls", "_law_found", "_law_turn", "_law_roll"] ["_law_script"] (defScope s_law) := ⟨rfl, rfl, rfl, by decide +kernel, rfl, by decide +kernel, by decide +kernel⟩

section
variable {P : Program} {w : World} {K : PySem.W.Frag} {mg : Str → Option Value} {base : Heap}
/-! ### the law -/
def spLaw (K : PySem.W.Frag) : Sp := fun vs H Q _ => ∃ (a : Addr) (ns : List Int), vs = [.ref a] ∧ SqL K H a (ns.map V.int) ∧ ns.length ≤ 63 ∧ ∀ H', Q (.bl true) H'
theorem seq_extP {H H' : Hp} {a b : Addr} {xs : List V} (h : SqL K H a xs) (hb : H b = none) (e : Pu.Ext b H H') : SqL K H' a xs := by
  rcases h with (h | ⟨o, h⟩) | h
  · exact .inl (.inl (e _ _ (ne_of_none h hb) h))
  · exact .inl (.inr ⟨o, e _ _ (ne_of_none h hb) h⟩)
  · exact .inr h
theorem sqt_box {b a : Addr} {H H' : Hp} {n : Int} {xs : List V} (h : SqT K H a xs) (B : Box H b n) (e : Pu.Ext b H H') : SqT K H' a xs := by
  obtain ⟨x, y, z, hb, _⟩ := B
  rcases h with (h | ⟨o, h⟩) | h
  · exact .inl (.inl (e _ _ (ne_of h hb (fun z => nomatch z)) h))
  · exact .inl (.inr ⟨o, e _ _ (ne_of h hb (fun z => nomatch z)) h⟩)
  · exact .inr h
theorem PlanAt.ext {C b p : Addr} {H H' : Hp} {n : Int} {d : PlanD} (h : PlanAt K C H p d) (B : Box H b n) (e : Pu.Ext b H H') : PlanAt K C H' p d := by
  obtain ⟨x, y, z, hb, _⟩ := id B
  obtain ⟨dx, o, r, c, ts, h1, h2, h3, h4, h5⟩ := h.ex
  exact ⟨dx, o, r, c, ts, e _ _ (ne_of h1 hb (fun z => nomatch z)) h1, sqt_box h2 B e, sqt_box h3 B e, h4.keep fun x _ r hr => e _ _ (ne_of hr hb (fun z => nomatch z)) hr, e _ _ (ne_of h5 hb (fun z => nomatch z)) h5⟩
def strsOf (H : Hp) (a : Addr) : List Str := match H a with
  | some (.lst xs) => xs.map unS
  | some (.tup xs) => xs.map unS
  | _ => []
theorem unS_map (es : List Str) : (es.map V.str).map unS = es := by
  rw [List.map_map]
  exact (List.map_congr_left fun _ _ => rfl).trans (List.map_id _)
/-- what is handed in for a list of texts: itself, or a tuple of the same -/
def Hand (H : Hp) (h : Addr) (c : List Str) : Prop := H h = some (.lst (c.map V.str)) ∨ H h = some (.tup (c.map V.str))
theorem Hand.of {H : Hp} {h : Addr} {c : List Str} (x : Hand H h c) : strsOf H h = c := by
  unfold strsOf
  rcases x with x | x
  · rw [x]; exact unS_map c
  · rw [x]; exact unS_map c
theorem Hand.sq {H : Hp} {h : Addr} {c : List Str} (x : Hand H h c) : Sq K H h (c.map V.str) := x.elim (fun x => .inl (.inl (.inl x))) fun x => .inr (.inl (.inl x))
theorem hands_of {H : Hp} {hs : List Addr} {cs : List (List Str)} (x : Paired (fun h c => Hand H h c) hs cs) : hs.map (strsOf H) = cs := by
  induction x with
  | nil => rfl
  | cons r _ ih => rw [List.map_cons, r.of, ih]
theorem hands_mem {H : Hp} {hs : List Addr} {cs : List (List Str)} (x : Paired (fun h c => Hand H h c) hs cs) : ∀ h ∈ hs, Hand H h (strsOf H h) ∧ strsOf H h ∈ cs := by
  induction x with
  | nil => exact fun h hh => nomatch hh
  | cons r _ ih =>
    intro h hh
    rcases List.mem_cons.mp hh with rfl | hh
    · rw [r.of]
      exact ⟨r, List.mem_cons_self ..⟩
    · exact ⟨(ih h hh).1, List.mem_cons_of_mem _ (ih h hh).2⟩
theorem learnt_mom {evs : List Str} {logs : List (List Str)} {G : Str → Str → Int} (no : ("" : Str) ∉ evs) (hs : ∀ l ∈ logs, ∀ e ∈ l, e ∈ evs) (h : Learnt (PreL logs) G) {p : List Str} (hp : PreL logs p) : momB (planOf evs (SofG "" evs G)) (cntL p) = true := by
  unfold momB
  rw [Bool.and_eq_true_iff, Bool.and_eq_true_iff, List.all_eq_true, List.all_eq_true, List.all_eq_true]
  refine ⟨fun x _ => decide_eq_true (cntL_nn p x), fun c hc => decide_eq_true ?_, fun t ht => decide_eq_true ?_⟩
  · obtain ⟨e, v⟩ := c
    obtain ⟨h1, h2⟩ := mem_capsO.mp hc
    rw [sofG_in (List.mem_cons_of_mem _ h1)] at h2
    have h3 := h.up p hp "" e
    have h4 : cntL p "" = 0 := cntL_no fun z => no (hp.sub hs _ z)
    have h5 := Option.some.inj h2
    show cntL p e ≤ v
    omega
  · obtain ⟨e, l, v⟩ := t
    obtain ⟨⟨h1, h2, _, h4⟩, _⟩ := mem_ties.mp (mem_pick_ties ht)
    rw [sofG_in (List.mem_cons_of_mem _ h2)] at h4
    have h3 := h.up p hp e l
    have h5 := Option.some.inj h4
    show cntL p l ≤ cntL p e + v
    omega
theorem logs_mem {H : Hp} {hs : List Addr} {cs : List (List Str)} (x : Paired (fun h c => H h = some (.lst (c.map V.str))) hs cs) : ∀ h ∈ hs, H h = some (.lst ((strsOf H h).map V.str)) ∧ strsOf H h ∈ cs := by
  induction x with
  | nil => exact fun h hh => nomatch hh
  | cons r _ ih =>
    intro h hh
    rcases List.mem_cons.mp hh with rfl | hh
    · rw [Hand.of (.inl r)]
      exact ⟨r, List.mem_cons_self ..⟩
    · exact ⟨(ih h hh).1, List.mem_cons_of_mem _ (ih h hh).2⟩
theorem ite_int {c : Bool} {σ : L2.St} {H : Hp} {N : VK} {i j : Int} (h : ∀ k : Int, k = i ∨ k = j → N (.int k) H) : if c = true then tC (.int i) σ H N else tC (.int j) σ H N := by
  cases c
  · exact iteF (h j (.inr rfl))
  · exact iteT (h i (.inl rfl))
/-- what is learnt from runs of a plan lies within it -/
theorem learnt_in {d : PlanD} (ok : PlanOk d) {logs : List (List Str)} {G : Str → Str → Int} (h : Learnt (PreL logs) G) (hs : ∀ l ∈ logs, ∀ e ∈ l, e ∈ d.evs) (hr : ∀ l ∈ logs, ∀ p x, p ++ [x] <+: l → momB d (cntL (p ++ [x])) = true) : NoBreach (farS (planOf d.evs (SofG "" d.evs G))) d := by
  have hno : ("" : Str) ∉ d.evs := fun h => name_ne (ok.evs.nm _ h) rfl
  have hC := clP_learnt hno ok.evs.nd hs h
  have hm : ∀ p, PreL logs p → momB d (cntL p) = true := fun p hp => by
    obtain ⟨L, hL, hp⟩ := hp
    rcases List.eq_nil_or_concat p with rfl | ⟨q, x, rfl⟩
    · exact zero_mom ok
    · rw [List.concat_eq_append] at hp ⊢
      exact hr L hL q x hp
  have key : ∀ f l n, 0 ≤ n → (∀ p, PreL logs p → cntL p l ≤ cntL p f + n) → G f l ≤ n := fun f l n h0 hp => by
    rcases h.at' f l with e | ⟨p, h1, e⟩
    · omega
    · have := hp p h1
      omega
  refine ⟨fun t ht => ?_, fun c hc => ?_⟩
  · obtain ⟨t1, t2, t3⟩ := ok.tin t ht
    refine ⟨G t.1 t.2.1, ?_, key _ _ _ t3 fun p hp => (mom_parts.mp (hm p hp)).2.2 t ht⟩
    unfold farS
    rw [planOf_far ok.evs hC (List.mem_cons_of_mem _ t1), sofG_in (List.mem_cons_of_mem _ t2)]
  · obtain ⟨c1, c2⟩ := ok.cin c hc
    refine ⟨G "" c.1, ?_, key _ _ _ c2 fun p hp => ?_⟩
    · unfold farS
      rw [planOf_far ok.evs hC (List.mem_cons_self ..), sofG_in (List.mem_cons_of_mem _ c1)]
    · have h1 := (mom_parts.mp (hm p hp)).2.1 c hc
      have h2 : cntL p "" = 0 := cntL_no fun z => hno (hp.sub hs _ z)
      omega
theorem ok_law {C f : Addr} {fd : FuncData} (F : Fun K "law" "law" s_law f fd) (T : Txt mg) (PI : PlanI K C) (claw_cell : Cal P w K mg base 1 "_law_cell" (Pu.spCell K) []) (claw_box : Cal P w K mg base 1 "_law_box" spBox []) (claw_take : Cal P w K mg base 1 "_law_take" spTake []) (claw_mixed : Cal P w K mg base 2 "_law_mixed" (spShuf K) [])
    (claw_small : Cal P w K mg base 4 "_law_small" spSmall []) (claw_plan : Cal P w K mg base 7 "_law_plan" (spPlanM K C) []) (cseen : Cal P w K mg base 8 "seen" (spSeen K C) []) (claw_read : Cal P w K mg base 2 "_law_read" (spRead K C) []) (claw_lists : Cal P w K mg base 1 "_law_lists" spLists []) (claw_is_run : Cal P w K mg base 3 "_law_is_run" spIsRun []) (claw_fits : Cal P w K mg base 4 "_law_fits" spFits [])
    (claw_run : Cal P w K mg base 3 "_law_run" spRun []) (clearnt : Cal P w K mg base 8 "learnt" (spLearnt K C) []) (cwithin : Cal P w K mg base 4 "within" (spWithin K C) []) :
    FnG P w K mg base CX0 10 f fd ["_law_script"] (spLaw K) := by
  have nd := sc_law.nd
  refine fnG F sc_law (fun vs H Q E h => ?_) (fun cdv A outer s H vs Q E hG hr h => ?_)
  · obtain ⟨_, _, rfl, _⟩ := h
    rfl
  · obtain ⟨a, ns, rfl, hS, hn, qq⟩ := h
    have hu := hu_of hr
    refine ⟨_, (pss_cons (ps_for PassesOwn.never rfl (pi_range1 rfl T.m_range (pa_cons (pe_callB (call_max2 rfl) (by rfl) T.m_max PyProof.Rows.boot_max (pa_cons pe_int (pa_cons (pe_callB (call_min2 rfl) (by rfl) T.m_min PyProof.Rows.boot_min (pa_cons pe_int (pa_cons (pe_callB (lenK K) (by rfl) T.m_len PySem.boot_len (pa_cons (pv 0) pa_nil)) pa_nil))) pa_nil))) pa_nil)) (pg_name (i := 1) nd rfl (Or.inl rfl))
      (pss_cons (ps_set (i := 2) nd rfl (Or.inr rfl) (pe_c claw_box hr (by decide) rfl (pa_cons (pe_c claw_cell hr (by decide) rfl (pa_cons (pv 0) (pa_cons (pv 1) pa_nil))) pa_nil)))
      (pss_cons (ps_set (i := 3) nd rfl (Or.inr rfl) (pe_c claw_small hr (by decide) rfl (pa_cons (pv 2) (pa_cons (pe_op oAdd pe_int (pe_c claw_take hr (by decide) rfl (pa_cons (pv 2) (pa_cons pe_int pa_nil)))) pa_nil))))
      (pss_cons (ps_set (i := 4) nd rfl (Or.inl rfl) (pe_slice (slL K) (pe_c claw_mixed hr (by decide) rfl (pa_cons (pv 2) (pa_cons (pe_ix (ixL K) (pv 3) pe_int (fun _ _ => rfl)) pa_nil))) po_none (po_some (pe_callB (call_max2 rfl) (by rfl) T.m_max PyProof.Rows.boot_max (pa_cons pe_int (pa_cons (pe_op op_sub (pe_callB (lenK K) (by rfl) T.m_len PySem.boot_len (pa_cons (pe_ix (ixL K) (pv 3) pe_int (fun _ _ => rfl)) pa_nil)) (pe_c claw_take hr (by decide) rfl (pa_cons (pv 2) (pa_cons pe_int pa_nil)))) pa_nil))))))
      (pss_cons (ps_set (i := 5) nd rfl (Or.inl rfl) (pe_c claw_plan hr (by decide) rfl (pa_cons (pv 3) pa_nil)))
      (pss_cons (ps_set (i := 6) nd rfl (Or.inl rfl) (pe_c claw_read hr (by decide) rfl (pa_cons (pe_c cseen hr (by decide) rfl (pa_cons (pv 5) (pa_cons (pv 4) pa_nil))) pa_nil)))
      (pss_cons (ps_for PassesOwn.never rfl (pi_list (pe_c claw_lists hr (by decide) rfl (pa_cons (pe_ix (ixL K) (pv 6) pe_int (fun _ _ => rfl)) (pa_cons (pe_ifExp (pt_cmpR op_lt (pe_callB (lenK K) (by rfl) T.m_len PySem.boot_len (pa_cons (pv 4) pa_nil)) pe_int (by rfl)) pe_int pe_int) pa_nil)))) (pg_name (i := 7) nd rfl (Or.inl rfl))
      (pss_one (ps_if (pt_cmpR op_ne (pe_c claw_is_run hr (by decide) rfl (pa_cons (pv 6) (pa_cons (pv 7) pa_nil))) (pe_c claw_fits hr (by decide) rfl (pa_cons (pv 3) (pa_cons (pv 4) (pa_cons (pv 7) pa_nil)))) (by rfl))
      (pss_one (ps_ret pe_bl)) pss_nil)))
      (pss_cons (ps_setLc (i := 8) (y := "_law_rolls") (own := [("_law_turn", 10)]) (g := gName 10) (tt := tYes) rfl nd rfl rfl (sw_true rfl rfl rfl (by decide +kernel)) (pi_range1 rfl T.m_range (pa_cons pe_int pa_nil)) (blkOk_by (N := ["_law_script", "_law_k", "_law_box_here", "_law_model_here", "_law_names_here", "_law_sheet", "_law_told", "_law_row", "_law_rolls", "_law_found", "_law_turn", "_law_roll"]) (sc := defScope s_law) (by decide +kernel)) (fun _ _ _ _ _ => pg_name (i := 10) nd rfl (Or.inl rfl)) (fun _ _ _ _ _ => pts_nil) (fun _ _ _ _ _ => (pe_c claw_run hr (by decide) rfl (pa_cons (pv 2) (pa_cons (pv 3) (pa_cons pe_int pa_nil))))))
      (pss_cons (ps_set (i := 9) nd rfl (Or.inr rfl) (pe_c clearnt hr (by decide) rfl (pa_cons (pe_ix (ixL K) (pv 3) pe_int (fun _ _ => rfl)) (pa_cons (pv 8) pa_nil))))
      (pss_cons (ps_if (pt_cmpR (op_neB K hr) (pe_lc (own := [("_law_roll", 11)]) (g := gName 11) rfl nd (pi_list (pv 8)) (blkOk_by (N := ["_law_script", "_law_k", "_law_box_here", "_law_model_here", "_law_names_here", "_law_sheet", "_law_told", "_law_row", "_law_rolls", "_law_found", "_law_turn", "_law_roll"]) (sc := defScope s_law) (by decide +kernel)) (fun _ _ _ _ _ => pg_name (i := 11) nd rfl (Or.inl rfl)) (fun _ _ _ _ _ => pts_one (pt_not (pt_val (pe_c claw_is_run hr (by decide) rfl (pa_cons (pe_c claw_read hr (by decide) rfl (pa_cons (pv 9) pa_nil)) (pa_cons (pv 11) pa_nil)))))) (fun _ _ _ _ _ => (pv 11))) (pe_lst pa_nil) (by rfl))
      (pss_one (ps_ret pe_bl)) pss_nil)
      (pss_one (ps_if (pt_cmpR op_notN (pe_c cwithin hr (by decide) rfl (pa_cons (pv 9) (pa_cons (pv 5) pa_nil))) pe_non (by rfl))
      (pss_one (ps_ret pe_bl)) pss_nil))))))))))))
      (pss_one (ps_ret pe_bl))), ?_⟩
    refine ⟨_, rfl, .inl ⟨a, _, rfl, .inl hS, _, _, rfl, _, _, rfl, _, rfl, ?_, ?_, ?_⟩⟩
    · split <;> split <;> omega
    · split <;> split <;> omega
    refine for_range (fun i σ H' => SqL K H' a (ns.map V.int) ∧ ∃ v1 v2 v3 v4 v5 v6 v7 v8 v9 v10 v11, σ = [some (.ref a), v1, v2, v3, v4, v5, v6, v7, v8, v9, v10, v11]) ⟨hS, _, _, _, _, _, _, _, _, _, _, _, rfl⟩ (fun i σ H1 hi h => ?_) (fun σ H1 h => qq _)
    obtain ⟨hS1, v1, v2, v3, v4, v5, v6, v7, v8, v9, v10, v11, rfl⟩ := h
    refine gname (seq_asg ?_)
    refine ⟨_, rfl, _, rfl, a, ns, i, by rw [Int.zero_add]; rfl, hS1, fun x => ⟨x, rfl, fun b H2 nb B2 e2 => ?_⟩⟩
    have E2 : Pu.Ext b H1 H2 := fun c o hc h => by rw [e2 c hc]; exact h
    refine gname (seq_asg ?_)
    refine ⟨_, rfl, _, rfl, b, 4, 0, rfl, by decide, by decide, by decide, B2, fun d0 H3 g1 g2 B3 x3 => ?_⟩
    obtain ⟨m0, rfl⟩ := Int.eq_ofNat_of_zero_le g1
    refine .inl ⟨1, (m0 : Nat), rfl, rfl, b, 1 + m0, 0 + 1, (by show [V.ref b, V.int (1 + ((m0 : Nat) : Int))] = _; rw [show (1 : Int) + (m0 : Nat) = ((1 + m0 : Nat) : Int) by omega]), by omega, by omega, by decide, B3, fun y d H4 B4 x4 hM hSm => ?_⟩
    have ok := hSm.ok
    have ev := ok.evs
    have hl4 : d.evs.length ≤ 4 := by rw [hSm.len]; omega
    have hlo := ev.lo
    have E4 := E2.trans (x3.trans x4)
    obtain ⟨e, t, c, ts, h1, h2, h3, h4, h5, n1, n2, n3, n4, n5⟩ := id hM
    refine gname (seq_asg ?_)
    refine ⟨_, rfl, _, rfl, y, _, ((0 : Nat) : Int), .ref e, rfl, rfl, .inl (.inl h1), atI_nat rfl, b, e, d.evs.map V.str, 0 + 1 + 600, rfl, .inl (.inl (.inl h2)), by rw [List.length_map]; omega, by decide, B4, fun l ys H5 B5 x5 nl kl hp => ?_⟩
    have h15 := x5 _ _ n1 h1
    have h25 := x5 _ _ n2 h2
    obtain ⟨cs, rfl, hcs⟩ := perm_strs hp
    have hlb : l ≠ b := (B4.ne nl).symm
    refine ⟨_, rfl, y, _, ((0 : Nat) : Int), .ref e, rfl, rfl, .inl (.inl h15), atI_nat rfl, .inl ⟨e, _, rfl, .inl (.inl (.inl h25)), _, rfl, b, 3, 0 + 1 + 600 + 4, rfl, by decide, by decide, by decide, B5.mono (by rw [List.length_map]; omega), fun dd H6 g3 g4 B6 x6 => ?_⟩⟩
    refine ⟨_, _, rfl, rfl, _, _, rfl, _, rfl, l, _, rfl, .inl (.inl (x6 _ _ hlb kl)), fun p np => ?_⟩
    obtain ⟨kk, hk1, hk2⟩ : ∃ kk : Nat, (if ((d.evs.map V.str).length : Int) - dd > 1 then ((d.evs.map V.str).length : Int) - dd else 1) = (kk : Int) ∧ 1 ≤ kk := by
      split
      · exact ⟨(((d.evs.map V.str).length : Int) - dd).toNat, by omega, by omega⟩
      · exact ⟨1, rfl, Nat.le_refl _⟩
    rw [hk1, cut_takeU, ← List.map_take]
    have hcl := hcs.length_eq
    have esnd : (cs.take kk).Nodup := (hcs.nodup_iff.mpr ev.nd).sublist (List.take_sublist ..)
    have esin : ∀ c ∈ cs.take kk, c ∈ d.evs := fun c hc => hcs.mem_iff.mp (List.mem_of_mem_take hc)
    have esne : cs.take kk ≠ [] := fun z => by
      have := congrArg List.length z
      rw [List.length_take, List.length_nil] at this
      omega
    have esl : (cs.take kk).length ≤ 8 := by rw [List.length_take]; omega
    have s7 := same_upd np (o := .lst ((cs.take kk).map V.str))
    have X47 := (x5.trans x6).trans (same_ext s7)
    have B7 := B6.same s7
    have pb := (B6.ne np).symm
    have kp : (upd H6 p (.lst ((cs.take kk).map V.str))) p = some (.lst ((cs.take kk).map V.str)) := upd_same
    revert esnd esin esne esl kp X47 B7
    generalize upd H6 p (.lst ((cs.take kk).map V.str)) = H7
    generalize cs.take kk = es
    intro esnd esin esne esl X47 B7 kp
    clear s7 np hk1 hk2 hcl hcs kl hp h15 h25
    have M7 := hM.ext X47
    have E7 := E4.trans X47
    refine gname (seq_asg ?_)
    refine ⟨_, rfl, b, y, d, rfl, M7, ok, fun s H8 s8 ns8 hp8 => ?_⟩
    refine gname (seq_asg ?_)
    refine ⟨_, rfl, _, rfl, s, p, d, es, rfl, hp8, ok, .inl (.inl (.inl (s8 _ _ kp))), esnd, esne, esin, fun q H9 s9 nq hq => ⟨q, _, rfl, hq, fun l2 e2 t2 c2 ts2 H10 s10 nl2 hl2 he2 ht2 hts2 hc2 => ?_⟩⟩
    have hT : MdAt H10 l2 (seenD d es) := ⟨e2, t2, c2, ts2, hl2, he2, ht2, hts2, hc2⟩
    have okS := seenD_ok ok esne esin
    have s810 := Same.trans s9 s10
    have s710 := Same.trans s8 s810
    have M10 := M7.ext (same_ext s710)
    have kp10 := s710 _ _ kp
    have hp10 := hp8.same s810
    have E10 := E7.trans (same_ext s710)
    have B10 := B7.same s710
    have X4 := X47.trans (same_ext s710)
    clear s710 s810 hp8 kp s8 s9 s10 hq nq X47 B7 M7 E7
    refine gname (seq_st ?_)
    refine ⟨_, rfl, l2, _, ((0 : Nat) : Int), .ref e2, rfl, rfl, .inl (.inl hl2), atI_nat rfl, _, rfl, .inl ⟨p, _, rfl, .inl (.inl (.inl kp10)), _, _, rfl, rfl, _, rfl, ite_int fun k hk => ?_⟩⟩
    obtain ⟨k, rfl, hk4⟩ : ∃ k' : Nat, k = (k' : Int) ∧ k' ≤ 4 := by
      rcases hk with rfl | rfl
      · exact ⟨4, rfl, by decide⟩
      · exact ⟨3, rfl, by decide⟩
    clear hk
    refine ⟨e2, evsIn d es, k, rfl, he2, Nat.le_trans (List.length_filter_le _ _) hl4, hk4, fun l3 gs H11 s11 nl3 hl3 hgs => ⟨l3, rfl, ⟨_, .inl (.inl hl3)⟩, ?_⟩⟩
    have hT := hT.same s11
    have M10 := M10.ext (same_ext s11)
    have kp10 := s11 _ _ kp10
    have hp10 := hp10.same s11
    have E10 := E10.trans (same_ext s11)
    have B10 := B10.same s11
    have X4 := X4.trans (same_ext s11)
    clear hl2 he2 ht2 hts2 hc2 nl3 nl2 s11
    refine for_it (walk_list (K := K) (a := l3) (xs := gs.map V.ref)) (fun j σ H' => Same H11 H' ∧ ∃ v7, σ = [some (.ref a), some (.int (0 + (i : Nat))), some (.ref b), some (.ref y), some (.ref p), some (.ref s), some (.ref l2), v7, v8, v9, v10, v11]) ⟨Same.refl _, _, rfl⟩ (fun j σ H' _ pv => .inl (.inl (pv.1 _ _ hl3))) (fun j x σ H12' H12 hj pv yv => ?_) (fun σ H12 pv => ?_)
    · obtain ⟨rfl, hx⟩ := yv
      obtain ⟨s12, v7, rfl⟩ := pv
      obtain ⟨g, hg, rfl⟩ := refs_get hx
      obtain ⟨row, r1, r2, r3⟩ := hgs g (List.mem_of_getElem? hg)
      have r2' : ∀ e ∈ row, e ∈ d.evs ∧ e ∈ es := fun e he => by
        obtain ⟨y1, y2⟩ := List.mem_filter.mp (r2 e he)
        exact ⟨y1, of_decide_eq_true y2⟩
      refine gname ?_
      refine ⟨_, rfl, _, rfl, l2, g, seenD d es, row, rfl, hT.same s12, okS, s12 _ _ r1, r2, fun H13 s13 => ⟨_, rfl, _, rfl, _, rfl, y, p, g, d, es, row, rfl, (M10.ext (same_ext (Same.trans s12 s13))).md, ok, hl4, s13 _ _ (s12 _ _ kp10), esne, esin, esl, s13 _ _ (s12 _ _ r1), r2', Nat.le_trans r3 hk4, fun H14 s14 => ⟨rfl, _, rfl, iteE (by rw [decide_eq_true rfl]; rfl) ?_⟩⟩⟩
      exact ⟨Same.trans s12 (Same.trans s13 s14), _, rfl⟩
    · obtain ⟨s12, v7, rfl⟩ := pv
      have M10 := M10.ext (same_ext s12)
      have hp10 := hp10.same s12
      have E10 := E10.trans (same_ext s12)
      have B10 := B10.same s12
      have X4 := X4.trans (same_ext s12)
      clear hT kp10 s12 hgs hl3
      dsimp only
      refine seq_asg ?_
      refine ⟨3, rfl, by decide, by decide, fun D nD => ?_⟩
      have nDb := (B10.ne nD).symm
      refine lc_range (lo := 0) (fun j H' => Pu.Ext b H12 H' ∧ Box H' b (0 + 1 + 600 + 4 + 1 + 12 * (j : Nat)) ∧ ∃ gs logs, H' D = some (.lst (gs.map V.ref)) ∧ gs.length = j ∧ Paired (fun g c => H' g = some (.lst (c.map V.str)) ∧ g ≠ b ∧ g ≠ D) gs logs ∧ ∀ l ∈ logs, l.length ≤ 12 ∧ (∀ e ∈ l, e ∈ d.evs) ∧ ∀ p x, p ++ [x] <+: l → momB d (cntL (p ++ [x])) = true)
        ⟨Ext.new nD, (B10.new nD).mono (by omega), [], [], upd_same, rfl, .nil, fun _ h => nomatch h⟩ (fun j H13 hj pv => ?_) (fun H13 pv => ?_)
      · obtain ⟨x13, B13, gs2, logs, hD13, hgl, hP, hlg⟩ := pv
        refine ⟨rfl, _, rfl, _, rfl, b, y, d, 12, _, rfl, M10.ext x13, ok, by decide, by omega, B13, fun l es2 H14 B14 x14 nl2 hl2 hle hlin hlr => ?_⟩
        have hlD : l ≠ D := fun z => by rw [z, hD13] at nl2; cases nl2
        have hlb : l ≠ b := (B13.ne nl2).symm
        refine ⟨_, x14 _ _ nDb hD13, ?_, (x13.trans x14).mut nD, (B14.upd nDb.symm).mono (by omega), gs2 ++ [l], logs ++ [es2], by rw [upd_same, List.map_append]; rfl, by rw [List.length_append, hgl]; rfl, paired_snoc (Paired.mapP hP fun g c ⟨y1, y2, y3⟩ => ⟨?_, y2, y3⟩) ⟨?_, hlb, hlD⟩, fun c hc => ?_⟩
        · rw [List.length_map, hgl]
          exact Nat.lt_of_lt_of_le (by omega) (sz 100)
        · rw [upd_ne y3]
          exact x14 _ _ y2 y1
        · rw [upd_ne hlD]
          exact hl2
        · rcases List.mem_append.mp hc with hc | hc
          · exact hlg c hc
          · rw [List.mem_singleton.mp hc]
            exact ⟨hle, hlin, hlr⟩
      obtain ⟨x13, B13, gs2, logs, hD13, hgl, hP, hlg⟩ := pv
      have hP' : Paired (fun h c => H13 h = some (.lst (c.map V.str))) gs2 logs := Paired.mapP hP fun _ _ y => y.1
      have hof : gs2.map (strsOf H13) = logs := hands_of (Paired.mapP hP' fun _ _ y => Or.inl y)
      have hmem := logs_mem hP'
      have M13 := M10.ext x13
      have hp13 := hp10.ext B10 x13
      have E13 := E10.trans x13
      clear hP hP' M10 hp10 E10 B10 X4 x13 B13 nD
      obtain ⟨e', t', c', ts', k1, k2, _⟩ := id M13
      refine gname (seq_asg ?_)
      have hLok : LogsOk K H13 d.evs gs2 (strsOf H13) := ⟨by omega, fun g hg => .inl (.inl (.inl (hmem g hg).1)), fun g hg => Nat.le_trans (hlg _ (hmem g hg).2).1 (by decide), fun g hg => (hlg _ (hmem g hg).2).2.1⟩
      refine ⟨_, rfl, y, _, ((0 : Nat) : Int), .ref e', rfl, rfl, .inl (.inl k1), atI_nat rfl, _, rfl, e', D, d.evs, gs2, strsOf H13, rfl, .inl (.inl (.inl k2)), .inl (.inl (.inl hD13)), ev, hLok, fun fo H14 G s14 nfo hG hfo => ?_⟩
      rw [hof] at hG
      have hno : ("" : Str) ∉ d.evs := fun h => name_ne (ev.nm _ h) rfl
      have hs : ∀ l ∈ logs, ∀ e ∈ l, e ∈ d.evs := fun l hl => (hlg l hl).2.1
      have okF := planOf_ok ev (clP_learnt hno ev.nd hs hG)
      have hNB := learnt_in ok hG hs fun l hl => (hlg l hl).2.2
      have hlm := fun {p} => learnt_mom (p := p) hno hs hG
      have hD14 := s14 _ _ hD13
      have hp14 := hp13.same s14
      have E14 := E13.trans (same_ext s14)
      refine gname (seq_st ?_)
      refine ⟨_, rfl, D, rfl, ⟨_, .inl (.inl hD14)⟩, fun B nB => ?_⟩
      refine lc_it (walk_list (K := K) (a := D) (xs := gs2.map V.ref)) (fun i H' => Same H14 H' ∧ H' B = some (.lst [])) ⟨same_upd nB, upd_same⟩ (fun i H' _ pv => .inl (.inl (pv.1 _ _ hD14))) (fun i x H15' H15 hi pv yv => ?_) (fun H15 pv => ?_)
      · obtain ⟨rfl, hx⟩ := yv
        obtain ⟨s15, hB15⟩ := pv
        obtain ⟨g, hgi, rfl⟩ := refs_get hx
        obtain ⟨g1, g2⟩ := hmem g (List.mem_of_getElem? hgi)
        refine ⟨rfl, _, rfl, fo, _, rfl, hfo.same s15, fun l3 e3 t3 c3 ts3 H16 s16 nl3 hl3 he3 ht3 hts3 hc3 => ⟨_, rfl, l3, g, _, strsOf H13 g, rfl, ⟨e3, t3, c3, ts3, hl3, he3, ht3, hts3, hc3⟩, okF, s16 _ _ (s15 _ _ (s14 _ _ g1)), hs _ g2, fun H17 s17 => ?_⟩⟩
        have hrun : runB (planOf d.evs (SofG "" d.evs G)) (strsOf H13 g) = true := runB_iff.mpr fun p x hp => hlm ⟨_, g2, hp⟩
        rw [hrun]
        exact ⟨_, rfl, iteF ⟨Same.trans s15 (Same.trans s16 s17), s17 _ _ (s16 _ _ hB15)⟩⟩
      obtain ⟨s15, hB15⟩ := pv
      refine ⟨sz 0, fun L nL => ?_⟩
      have s16 := same_upd nL (o := .lst [])
      refine ⟨1, _, by decide, empV_eq (s16 _ _ hB15) upd_same, _, rfl, iteF ?_⟩
      have s1516 := Same.trans s15 s16
      have hp16 := hp14.same s1516
      have hfo16 := hfo.same s1516
      have E16 := E14.trans (same_ext s1516)
      revert hp16 hfo16 E16
      generalize upd H15 L (.lst []) = H16
      intro hp16 hfo16 E16
      refine next_of ?_
      dsimp only
      refine ⟨_, rfl, _, rfl, fo, s, _, d, rfl, hfo16, hp16, okF, ok, rfl, hNB, fun H17 s17 => ⟨rfl, _, rfl, iteE (by rw [decide_eq_true rfl]; rfl) ?_⟩⟩
      exact ⟨seq_extP hS1 nb (E16.trans (same_ext s17)), _, _, _, _, _, _, _, _, _, _, _, rfl⟩

end
end Pk

set_option Elab.async false
set_option linter.all false
set_option maxRecDepth 100000
set_option maxHeartbeats 4000000
namespace Pk
open PySem PySem.Spec PyProof.Rows L2 Pu
abbrev s_least_moment : Stmt := topS 7
theorem sc_least_moment : FnScope ["sums", "event", "count", "other"] ["sums", "event", "count"] (defScope s_least_moment) := ⟨rfl, rfl, rfl, by decide +kernel, rfl, by decide +kernel, by decide +kernel⟩
abbrev s_total : Stmt := topS 47
theorem sc_total : FnScope ["counts"] ["counts"] (defScope s_total) := ⟨rfl, rfl, rfl, by decide +kernel, rfl, by decide +kernel, by decide +kernel⟩

section
variable {P : Program} {w : World} {K : PySem.W.Frag} {mg : Str → Option Value} {base : Heap}
/-- least_moment is not called where nothing is broken -/
theorem ok_least_none {f : Addr} {fd : FuncData} (F : Fun K "least_moment" "least_moment" s_least_moment f fd) : FnOk P w K mg base CX0 1 f fd ["sums", "event", "count"] spNone := by
  refine F.ok sc_least_moment (fun vs H Q E h => False.elim h) (fun cdv A outer s H vs Q E hr h => False.elim h)

end
end Pk

set_option Elab.async false
set_option linter.all false
set_option maxRecDepth 100000
set_option maxHeartbeats 4000000
namespace Pk
open PySem PySem.Spec PyProof.Rows L2 Pu
open PySem.Er (ErrTxt)
theorem all_mk {l : PySem.W.OpenLaw} {w : World} {K : PySem.W.Frag} {h : Heap} {mg : Str → Option Value} {fa f_total f_is_integer f_is_count f_is_name f_need_events f_need_event f_need_tie f_need_ties f_need_limits f_ringed f_need_plan f_need_like f_need_alike_events f_need_different f_need_names f_least_moment f_places_of f_placed_rows f_close f_closed_sums f_is_above f_breaches f_beyond f_within f_free_steps f_leads_round f_is_reached f_follows f_staying f_plan_of f_seen f_need_logs f_widen f_leads_of f_learnt f__law_cell f__law_box f__law_take f__law_mixed f__law_names f__law_lag f__law_model f__law_plan f__law_small f__law_is_moment f__law_read f__law_run f__law_lists f__law_hidden f__law_fits f__law_is_run f_law C f_Plan_events f_Plan_ties f_Plan_limits f_init kD_init T_init U_init E_InvalidPlan fe_InvalidPlan N_InvalidPlan : Addr} {t_NOTHING t_LETTERS t_LONGEST_NAME t_BILLION t_MOST_EVENTS t_MOST_TIES t_MOST_LOGS t_LONGEST_LOG : Tok} (X : K.In h) (G : h.Ns mainGlobals mg) (hfa : mg "law" = some (.ref fa))
    {od_total an_total : Option Addr} {sl_total : Array (Option Value)} {oc_total kV_total dc_total pm_total cd_total ct_total : Value}
    {od_is_integer an_is_integer : Option Addr} {sl_is_integer : Array (Option Value)} {oc_is_integer kV_is_integer dc_is_integer pm_is_integer cd_is_integer ct_is_integer : Value}
    {od_is_count an_is_count : Option Addr} {sl_is_count : Array (Option Value)} {oc_is_count kV_is_count dc_is_count pm_is_count cd_is_count ct_is_count : Value}
    {od_is_name an_is_name : Option Addr} {sl_is_name : Array (Option Value)} {oc_is_name kV_is_name dc_is_name pm_is_name cd_is_name ct_is_name : Value}
    {od_need_events an_need_events : Option Addr} {sl_need_events : Array (Option Value)} {oc_need_events kV_need_events dc_need_events pm_need_events cd_need_events ct_need_events : Value}
    {od_need_event an_need_event : Option Addr} {sl_need_event : Array (Option Value)} {oc_need_event kV_need_event dc_need_event pm_need_event cd_need_event ct_need_event : Value}
    {od_need_tie an_need_tie : Option Addr} {sl_need_tie : Array (Option Value)} {oc_need_tie kV_need_tie dc_need_tie pm_need_tie cd_need_tie ct_need_tie : Value}
    {od_need_ties an_need_ties : Option Addr} {sl_need_ties : Array (Option Value)} {oc_need_ties kV_need_ties dc_need_ties pm_need_ties cd_need_ties ct_need_ties : Value}
    {od_need_limits an_need_limits : Option Addr} {sl_need_limits : Array (Option Value)} {oc_need_limits kV_need_limits dc_need_limits pm_need_limits cd_need_limits ct_need_limits : Value}
    {od_ringed an_ringed : Option Addr} {sl_ringed : Array (Option Value)} {oc_ringed kV_ringed dc_ringed pm_ringed cd_ringed ct_ringed : Value}
    {od_need_plan an_need_plan : Option Addr} {sl_need_plan : Array (Option Value)} {oc_need_plan kV_need_plan dc_need_plan pm_need_plan cd_need_plan ct_need_plan : Value}
    {od_need_like an_need_like : Option Addr} {sl_need_like : Array (Option Value)} {oc_need_like kV_need_like dc_need_like pm_need_like cd_need_like ct_need_like : Value}
    {od_need_alike_events an_need_alike_events : Option Addr} {sl_need_alike_events : Array (Option Value)} {oc_need_alike_events kV_need_alike_events dc_need_alike_events pm_need_alike_events cd_need_alike_events ct_need_alike_events : Value}
    {od_need_different an_need_different : Option Addr} {sl_need_different : Array (Option Value)} {oc_need_different kV_need_different dc_need_different pm_need_different cd_need_different ct_need_different : Value}
    {od_need_names an_need_names : Option Addr} {sl_need_names : Array (Option Value)} {oc_need_names kV_need_names dc_need_names pm_need_names cd_need_names ct_need_names : Value}
    {od_least_moment an_least_moment : Option Addr} {sl_least_moment : Array (Option Value)} {oc_least_moment kV_least_moment dc_least_moment pm_least_moment cd_least_moment ct_least_moment : Value}
    {od_places_of an_places_of : Option Addr} {sl_places_of : Array (Option Value)} {oc_places_of kV_places_of dc_places_of pm_places_of cd_places_of ct_places_of : Value}
    {od_placed_rows an_placed_rows : Option Addr} {sl_placed_rows : Array (Option Value)} {oc_placed_rows kV_placed_rows dc_placed_rows pm_placed_rows cd_placed_rows ct_placed_rows : Value}
    {od_close an_close : Option Addr} {sl_close : Array (Option Value)} {oc_close kV_close dc_close pm_close cd_close ct_close : Value}
    {od_closed_sums an_closed_sums : Option Addr} {sl_closed_sums : Array (Option Value)} {oc_closed_sums kV_closed_sums dc_closed_sums pm_closed_sums cd_closed_sums ct_closed_sums : Value}
    {od_is_above an_is_above : Option Addr} {sl_is_above : Array (Option Value)} {oc_is_above kV_is_above dc_is_above pm_is_above cd_is_above ct_is_above : Value}
    {od_breaches an_breaches : Option Addr} {sl_breaches : Array (Option Value)} {oc_breaches kV_breaches dc_breaches pm_breaches cd_breaches ct_breaches : Value}
    {od_beyond an_beyond : Option Addr} {sl_beyond : Array (Option Value)} {oc_beyond kV_beyond dc_beyond pm_beyond cd_beyond ct_beyond : Value}
    {od_within an_within : Option Addr} {sl_within : Array (Option Value)} {oc_within kV_within dc_within pm_within cd_within ct_within : Value}
    {od_free_steps an_free_steps : Option Addr} {sl_free_steps : Array (Option Value)} {oc_free_steps kV_free_steps dc_free_steps pm_free_steps cd_free_steps ct_free_steps : Value}
    {od_leads_round an_leads_round : Option Addr} {sl_leads_round : Array (Option Value)} {oc_leads_round kV_leads_round dc_leads_round pm_leads_round cd_leads_round ct_leads_round : Value}
    {od_is_reached an_is_reached : Option Addr} {sl_is_reached : Array (Option Value)} {oc_is_reached kV_is_reached dc_is_reached pm_is_reached cd_is_reached ct_is_reached : Value}
    {od_follows an_follows : Option Addr} {sl_follows : Array (Option Value)} {oc_follows kV_follows dc_follows pm_follows cd_follows ct_follows : Value}
    {od_staying an_staying : Option Addr} {sl_staying : Array (Option Value)} {oc_staying kV_staying dc_staying pm_staying cd_staying ct_staying : Value}
    {od_plan_of an_plan_of : Option Addr} {sl_plan_of : Array (Option Value)} {oc_plan_of kV_plan_of dc_plan_of pm_plan_of cd_plan_of ct_plan_of : Value}
    {od_seen an_seen : Option Addr} {sl_seen : Array (Option Value)} {oc_seen kV_seen dc_seen pm_seen cd_seen ct_seen : Value}
    {od_need_logs an_need_logs : Option Addr} {sl_need_logs : Array (Option Value)} {oc_need_logs kV_need_logs dc_need_logs pm_need_logs cd_need_logs ct_need_logs : Value}
    {od_widen an_widen : Option Addr} {sl_widen : Array (Option Value)} {oc_widen kV_widen dc_widen pm_widen cd_widen ct_widen : Value}
    {od_leads_of an_leads_of : Option Addr} {sl_leads_of : Array (Option Value)} {oc_leads_of kV_leads_of dc_leads_of pm_leads_of cd_leads_of ct_leads_of : Value}
    {od_learnt an_learnt : Option Addr} {sl_learnt : Array (Option Value)} {oc_learnt kV_learnt dc_learnt pm_learnt cd_learnt ct_learnt : Value}
    {od__law_cell an__law_cell : Option Addr} {sl__law_cell : Array (Option Value)} {oc__law_cell kV__law_cell dc__law_cell pm__law_cell cd__law_cell ct__law_cell : Value}
    {od__law_box an__law_box : Option Addr} {sl__law_box : Array (Option Value)} {oc__law_box kV__law_box dc__law_box pm__law_box cd__law_box ct__law_box : Value}
    {od__law_take an__law_take : Option Addr} {sl__law_take : Array (Option Value)} {oc__law_take kV__law_take dc__law_take pm__law_take cd__law_take ct__law_take : Value}
    {od__law_mixed an__law_mixed : Option Addr} {sl__law_mixed : Array (Option Value)} {oc__law_mixed kV__law_mixed dc__law_mixed pm__law_mixed cd__law_mixed ct__law_mixed : Value}
    {od__law_names an__law_names : Option Addr} {sl__law_names : Array (Option Value)} {oc__law_names kV__law_names dc__law_names pm__law_names cd__law_names ct__law_names : Value}
    {od__law_lag an__law_lag : Option Addr} {sl__law_lag : Array (Option Value)} {oc__law_lag kV__law_lag dc__law_lag pm__law_lag cd__law_lag ct__law_lag : Value}
    {od__law_model an__law_model : Option Addr} {sl__law_model : Array (Option Value)} {oc__law_model kV__law_model dc__law_model pm__law_model cd__law_model ct__law_model : Value}
    {od__law_plan an__law_plan : Option Addr} {sl__law_plan : Array (Option Value)} {oc__law_plan kV__law_plan dc__law_plan pm__law_plan cd__law_plan ct__law_plan : Value}
    {od__law_small an__law_small : Option Addr} {sl__law_small : Array (Option Value)} {oc__law_small kV__law_small dc__law_small pm__law_small cd__law_small ct__law_small : Value}
    {od__law_is_moment an__law_is_moment : Option Addr} {sl__law_is_moment : Array (Option Value)} {oc__law_is_moment kV__law_is_moment dc__law_is_moment pm__law_is_moment cd__law_is_moment ct__law_is_moment : Value}
    {od__law_read an__law_read : Option Addr} {sl__law_read : Array (Option Value)} {oc__law_read kV__law_read dc__law_read pm__law_read cd__law_read ct__law_read : Value}
    {od__law_run an__law_run : Option Addr} {sl__law_run : Array (Option Value)} {oc__law_run kV__law_run dc__law_run pm__law_run cd__law_run ct__law_run : Value}
    {od__law_lists an__law_lists : Option Addr} {sl__law_lists : Array (Option Value)} {oc__law_lists kV__law_lists dc__law_lists pm__law_lists cd__law_lists ct__law_lists : Value}
    {od__law_hidden an__law_hidden : Option Addr} {sl__law_hidden : Array (Option Value)} {oc__law_hidden kV__law_hidden dc__law_hidden pm__law_hidden cd__law_hidden ct__law_hidden : Value}
    {od__law_fits an__law_fits : Option Addr} {sl__law_fits : Array (Option Value)} {oc__law_fits kV__law_fits dc__law_fits pm__law_fits cd__law_fits ct__law_fits : Value}
    {od__law_is_run an__law_is_run : Option Addr} {sl__law_is_run : Array (Option Value)} {oc__law_is_run kV__law_is_run dc__law_is_run pm__law_is_run cd__law_is_run ct__law_is_run : Value}
    {od_law an_law : Option Addr} {sl_law : Array (Option Value)} {oc_law kV_law dc_law pm_law cd_law ct_law : Value}
    {od_Plan_events an_Plan_events : Option Addr} {sl_Plan_events : Array (Option Value)} {oc_Plan_events kV_Plan_events dc_Plan_events pm_Plan_events cd_Plan_events ct_Plan_events : Value}
    {od_Plan_ties an_Plan_ties : Option Addr} {sl_Plan_ties : Array (Option Value)} {oc_Plan_ties kV_Plan_ties dc_Plan_ties pm_Plan_ties cd_Plan_ties ct_Plan_ties : Value}
    {od_Plan_limits an_Plan_limits : Option Addr} {sl_Plan_limits : Array (Option Value)} {oc_Plan_limits kV_Plan_limits dc_Plan_limits pm_Plan_limits cd_Plan_limits ct_Plan_limits : Value}
    {od_init an_init : Option Addr} {sl_init : Array (Option Value)} {oc_init dc_init pm_init cd_init ct_init : Value} {ocT : Value} {odT : Option Addr} {slT slU : Array (Option Value)} {odU : Option Addr} {nT nU : Nat}
    {nm_InvalidPlan q_InvalidPlan : Str} {bs_InvalidPlan bm_InvalidPlan : List Value} {sn_InvalidPlan : List Str} {sb_InvalidPlan : List Value} {ab_InvalidPlan : Bool} {co_InvalidPlan : Option Bool} {dd_InvalidPlan : Option Addr} {k0_InvalidPlan k1_InvalidPlan k2_InvalidPlan k3_InvalidPlan k5_InvalidPlan : Option Value} {oc_InvalidPlan pm_InvalidPlan dc_InvalidPlan cd_InvalidPlan ct_InvalidPlan : Value} {od_InvalidPlan an_InvalidPlan : Option Addr} {sl_InvalidPlan : Array (Option Value)} {p1_InvalidPlan p2_InvalidPlan q1_InvalidPlan q2_InvalidPlan q3_InvalidPlan q4_InvalidPlan : Pos}
    (a_total : PySem.W.nsIn K mainGlobals "total" = some (some (.ref f_total)))
    (l_total : K.lookup f_total = some ⟨oc_total, od_total, .func (PySem.W.fnOf "total" "total" (defArgs s_total) (defBody s_total) (defScope s_total) .none kV_total dc_total pm_total an_total cd_total ct_total), sl_total⟩)
    (c_total : PySem.W.codeIn K cd_total "total" = true)
    (k_total : PySem.W.keepIn K (.ref f_total) = true)
    (a_is_integer : PySem.W.nsIn K mainGlobals "is_integer" = some (some (.ref f_is_integer)))
    (l_is_integer : K.lookup f_is_integer = some ⟨oc_is_integer, od_is_integer, .func (PySem.W.fnOf "is_integer" "is_integer" (defArgs s_is_integer) (defBody s_is_integer) (defScope s_is_integer) .none kV_is_integer dc_is_integer pm_is_integer an_is_integer cd_is_integer ct_is_integer), sl_is_integer⟩)
    (c_is_integer : PySem.W.codeIn K cd_is_integer "is_integer" = true)
    (k_is_integer : PySem.W.keepIn K (.ref f_is_integer) = true)
    (a_is_count : PySem.W.nsIn K mainGlobals "is_count" = some (some (.ref f_is_count)))
    (l_is_count : K.lookup f_is_count = some ⟨oc_is_count, od_is_count, .func (PySem.W.fnOf "is_count" "is_count" (defArgs s_is_count) (defBody s_is_count) (defScope s_is_count) .none kV_is_count dc_is_count pm_is_count an_is_count cd_is_count ct_is_count), sl_is_count⟩)
    (c_is_count : PySem.W.codeIn K cd_is_count "is_count" = true)
    (k_is_count : PySem.W.keepIn K (.ref f_is_count) = true)
    (a_is_name : PySem.W.nsIn K mainGlobals "is_name" = some (some (.ref f_is_name)))
    (l_is_name : K.lookup f_is_name = some ⟨oc_is_name, od_is_name, .func (PySem.W.fnOf "is_name" "is_name" (defArgs s_is_name) (defBody s_is_name) (defScope s_is_name) .none kV_is_name dc_is_name pm_is_name an_is_name cd_is_name ct_is_name), sl_is_name⟩)
    (c_is_name : PySem.W.codeIn K cd_is_name "is_name" = true)
    (k_is_name : PySem.W.keepIn K (.ref f_is_name) = true)
    (a_need_events : PySem.W.nsIn K mainGlobals "need_events" = some (some (.ref f_need_events)))
    (l_need_events : K.lookup f_need_events = some ⟨oc_need_events, od_need_events, .func (PySem.W.fnOf "need_events" "need_events" (defArgs s_need_events) (defBody s_need_events) (defScope s_need_events) .none kV_need_events dc_need_events pm_need_events an_need_events cd_need_events ct_need_events), sl_need_events⟩)
    (c_need_events : PySem.W.codeIn K cd_need_events "need_events" = true)
    (k_need_events : PySem.W.keepIn K (.ref f_need_events) = true)
    (a_need_event : PySem.W.nsIn K mainGlobals "need_event" = some (some (.ref f_need_event)))
    (l_need_event : K.lookup f_need_event = some ⟨oc_need_event, od_need_event, .func (PySem.W.fnOf "need_event" "need_event" (defArgs s_need_event) (defBody s_need_event) (defScope s_need_event) .none kV_need_event dc_need_event pm_need_event an_need_event cd_need_event ct_need_event), sl_need_event⟩)
    (c_need_event : PySem.W.codeIn K cd_need_event "need_event" = true)
    (k_need_event : PySem.W.keepIn K (.ref f_need_event) = true)
    (a_need_tie : PySem.W.nsIn K mainGlobals "need_tie" = some (some (.ref f_need_tie)))
    (l_need_tie : K.lookup f_need_tie = some ⟨oc_need_tie, od_need_tie, .func (PySem.W.fnOf "need_tie" "need_tie" (defArgs s_need_tie) (defBody s_need_tie) (defScope s_need_tie) .none kV_need_tie dc_need_tie pm_need_tie an_need_tie cd_need_tie ct_need_tie), sl_need_tie⟩)
    (c_need_tie : PySem.W.codeIn K cd_need_tie "need_tie" = true)
    (k_need_tie : PySem.W.keepIn K (.ref f_need_tie) = true)
    (a_need_ties : PySem.W.nsIn K mainGlobals "need_ties" = some (some (.ref f_need_ties)))
    (l_need_ties : K.lookup f_need_ties = some ⟨oc_need_ties, od_need_ties, .func (PySem.W.fnOf "need_ties" "need_ties" (defArgs s_need_ties) (defBody s_need_ties) (defScope s_need_ties) .none kV_need_ties dc_need_ties pm_need_ties an_need_ties cd_need_ties ct_need_ties), sl_need_ties⟩)
    (c_need_ties : PySem.W.codeIn K cd_need_ties "need_ties" = true)
    (k_need_ties : PySem.W.keepIn K (.ref f_need_ties) = true)
    (a_need_limits : PySem.W.nsIn K mainGlobals "need_limits" = some (some (.ref f_need_limits)))
    (l_need_limits : K.lookup f_need_limits = some ⟨oc_need_limits, od_need_limits, .func (PySem.W.fnOf "need_limits" "need_limits" (defArgs s_need_limits) (defBody s_need_limits) (defScope s_need_limits) .none kV_need_limits dc_need_limits pm_need_limits an_need_limits cd_need_limits ct_need_limits), sl_need_limits⟩)
    (c_need_limits : PySem.W.codeIn K cd_need_limits "need_limits" = true)
    (k_need_limits : PySem.W.keepIn K (.ref f_need_limits) = true)
    (a_ringed : PySem.W.nsIn K mainGlobals "ringed" = some (some (.ref f_ringed)))
    (l_ringed : K.lookup f_ringed = some ⟨oc_ringed, od_ringed, .func (PySem.W.fnOf "ringed" "ringed" (defArgs s_ringed) (defBody s_ringed) (defScope s_ringed) .none kV_ringed dc_ringed pm_ringed an_ringed cd_ringed ct_ringed), sl_ringed⟩)
    (c_ringed : PySem.W.codeIn K cd_ringed "ringed" = true)
    (k_ringed : PySem.W.keepIn K (.ref f_ringed) = true)
    (a_need_plan : PySem.W.nsIn K mainGlobals "need_plan" = some (some (.ref f_need_plan)))
    (l_need_plan : K.lookup f_need_plan = some ⟨oc_need_plan, od_need_plan, .func (PySem.W.fnOf "need_plan" "need_plan" (defArgs s_need_plan) (defBody s_need_plan) (defScope s_need_plan) .none kV_need_plan dc_need_plan pm_need_plan an_need_plan cd_need_plan ct_need_plan), sl_need_plan⟩)
    (c_need_plan : PySem.W.codeIn K cd_need_plan "need_plan" = true)
    (k_need_plan : PySem.W.keepIn K (.ref f_need_plan) = true)
    (a_need_like : PySem.W.nsIn K mainGlobals "need_like" = some (some (.ref f_need_like)))
    (l_need_like : K.lookup f_need_like = some ⟨oc_need_like, od_need_like, .func (PySem.W.fnOf "need_like" "need_like" (defArgs s_need_like) (defBody s_need_like) (defScope s_need_like) .none kV_need_like dc_need_like pm_need_like an_need_like cd_need_like ct_need_like), sl_need_like⟩)
    (c_need_like : PySem.W.codeIn K cd_need_like "need_like" = true)
    (k_need_like : PySem.W.keepIn K (.ref f_need_like) = true)
    (a_need_alike_events : PySem.W.nsIn K mainGlobals "need_alike_events" = some (some (.ref f_need_alike_events)))
    (l_need_alike_events : K.lookup f_need_alike_events = some ⟨oc_need_alike_events, od_need_alike_events, .func (PySem.W.fnOf "need_alike_events" "need_alike_events" (defArgs s_need_alike_events) (defBody s_need_alike_events) (defScope s_need_alike_events) .none kV_need_alike_events dc_need_alike_events pm_need_alike_events an_need_alike_events cd_need_alike_events ct_need_alike_events), sl_need_alike_events⟩)
    (c_need_alike_events : PySem.W.codeIn K cd_need_alike_events "need_alike_events" = true)
    (k_need_alike_events : PySem.W.keepIn K (.ref f_need_alike_events) = true)
    (a_need_different : PySem.W.nsIn K mainGlobals "need_different" = some (some (.ref f_need_different)))
    (l_need_different : K.lookup f_need_different = some ⟨oc_need_different, od_need_different, .func (PySem.W.fnOf "need_different" "need_different" (defArgs s_need_different) (defBody s_need_different) (defScope s_need_different) .none kV_need_different dc_need_different pm_need_different an_need_different cd_need_different ct_need_different), sl_need_different⟩)
    (c_need_different : PySem.W.codeIn K cd_need_different "need_different" = true)
    (k_need_different : PySem.W.keepIn K (.ref f_need_different) = true)
    (a_need_names : PySem.W.nsIn K mainGlobals "need_names" = some (some (.ref f_need_names)))
    (l_need_names : K.lookup f_need_names = some ⟨oc_need_names, od_need_names, .func (PySem.W.fnOf "need_names" "need_names" (defArgs s_need_names) (defBody s_need_names) (defScope s_need_names) .none kV_need_names dc_need_names pm_need_names an_need_names cd_need_names ct_need_names), sl_need_names⟩)
    (c_need_names : PySem.W.codeIn K cd_need_names "need_names" = true)
    (k_need_names : PySem.W.keepIn K (.ref f_need_names) = true)
    (a_least_moment : PySem.W.nsIn K mainGlobals "least_moment" = some (some (.ref f_least_moment)))
    (l_least_moment : K.lookup f_least_moment = some ⟨oc_least_moment, od_least_moment, .func (PySem.W.fnOf "least_moment" "least_moment" (defArgs s_least_moment) (defBody s_least_moment) (defScope s_least_moment) .none kV_least_moment dc_least_moment pm_least_moment an_least_moment cd_least_moment ct_least_moment), sl_least_moment⟩)
    (c_least_moment : PySem.W.codeIn K cd_least_moment "least_moment" = true)
    (k_least_moment : PySem.W.keepIn K (.ref f_least_moment) = true)
    (a_places_of : PySem.W.nsIn K mainGlobals "places_of" = some (some (.ref f_places_of)))
    (l_places_of : K.lookup f_places_of = some ⟨oc_places_of, od_places_of, .func (PySem.W.fnOf "places_of" "places_of" (defArgs s_places_of) (defBody s_places_of) (defScope s_places_of) .none kV_places_of dc_places_of pm_places_of an_places_of cd_places_of ct_places_of), sl_places_of⟩)
    (c_places_of : PySem.W.codeIn K cd_places_of "places_of" = true)
    (k_places_of : PySem.W.keepIn K (.ref f_places_of) = true)
    (a_placed_rows : PySem.W.nsIn K mainGlobals "placed_rows" = some (some (.ref f_placed_rows)))
    (l_placed_rows : K.lookup f_placed_rows = some ⟨oc_placed_rows, od_placed_rows, .func (PySem.W.fnOf "placed_rows" "placed_rows" (defArgs s_placed_rows) (defBody s_placed_rows) (defScope s_placed_rows) .none kV_placed_rows dc_placed_rows pm_placed_rows an_placed_rows cd_placed_rows ct_placed_rows), sl_placed_rows⟩)
    (c_placed_rows : PySem.W.codeIn K cd_placed_rows "placed_rows" = true)
    (k_placed_rows : PySem.W.keepIn K (.ref f_placed_rows) = true)
    (a_close : PySem.W.nsIn K mainGlobals "close" = some (some (.ref f_close)))
    (l_close : K.lookup f_close = some ⟨oc_close, od_close, .func (PySem.W.fnOf "close" "close" (defArgs s_close) (defBody s_close) (defScope s_close) .none kV_close dc_close pm_close an_close cd_close ct_close), sl_close⟩)
    (c_close : PySem.W.codeIn K cd_close "close" = true)
    (k_close : PySem.W.keepIn K (.ref f_close) = true)
    (a_closed_sums : PySem.W.nsIn K mainGlobals "closed_sums" = some (some (.ref f_closed_sums)))
    (l_closed_sums : K.lookup f_closed_sums = some ⟨oc_closed_sums, od_closed_sums, .func (PySem.W.fnOf "closed_sums" "closed_sums" (defArgs s_closed_sums) (defBody s_closed_sums) (defScope s_closed_sums) .none kV_closed_sums dc_closed_sums pm_closed_sums an_closed_sums cd_closed_sums ct_closed_sums), sl_closed_sums⟩)
    (c_closed_sums : PySem.W.codeIn K cd_closed_sums "closed_sums" = true)
    (k_closed_sums : PySem.W.keepIn K (.ref f_closed_sums) = true)
    (a_is_above : PySem.W.nsIn K mainGlobals "is_above" = some (some (.ref f_is_above)))
    (l_is_above : K.lookup f_is_above = some ⟨oc_is_above, od_is_above, .func (PySem.W.fnOf "is_above" "is_above" (defArgs s_is_above) (defBody s_is_above) (defScope s_is_above) .none kV_is_above dc_is_above pm_is_above an_is_above cd_is_above ct_is_above), sl_is_above⟩)
    (c_is_above : PySem.W.codeIn K cd_is_above "is_above" = true)
    (k_is_above : PySem.W.keepIn K (.ref f_is_above) = true)
    (a_breaches : PySem.W.nsIn K mainGlobals "breaches" = some (some (.ref f_breaches)))
    (l_breaches : K.lookup f_breaches = some ⟨oc_breaches, od_breaches, .func (PySem.W.fnOf "breaches" "breaches" (defArgs s_breaches) (defBody s_breaches) (defScope s_breaches) .none kV_breaches dc_breaches pm_breaches an_breaches cd_breaches ct_breaches), sl_breaches⟩)
    (c_breaches : PySem.W.codeIn K cd_breaches "breaches" = true)
    (k_breaches : PySem.W.keepIn K (.ref f_breaches) = true)
    (a_beyond : PySem.W.nsIn K mainGlobals "beyond" = some (some (.ref f_beyond)))
    (l_beyond : K.lookup f_beyond = some ⟨oc_beyond, od_beyond, .func (PySem.W.fnOf "beyond" "beyond" (defArgs s_beyond) (defBody s_beyond) (defScope s_beyond) .none kV_beyond dc_beyond pm_beyond an_beyond cd_beyond ct_beyond), sl_beyond⟩)
    (c_beyond : PySem.W.codeIn K cd_beyond "beyond" = true)
    (k_beyond : PySem.W.keepIn K (.ref f_beyond) = true)
    (a_within : PySem.W.nsIn K mainGlobals "within" = some (some (.ref f_within)))
    (l_within : K.lookup f_within = some ⟨oc_within, od_within, .func (PySem.W.fnOf "within" "within" (defArgs s_within) (defBody s_within) (defScope s_within) .none kV_within dc_within pm_within an_within cd_within ct_within), sl_within⟩)
    (c_within : PySem.W.codeIn K cd_within "within" = true)
    (k_within : PySem.W.keepIn K (.ref f_within) = true)
    (a_free_steps : PySem.W.nsIn K mainGlobals "free_steps" = some (some (.ref f_free_steps)))
    (l_free_steps : K.lookup f_free_steps = some ⟨oc_free_steps, od_free_steps, .func (PySem.W.fnOf "free_steps" "free_steps" (defArgs s_free_steps) (defBody s_free_steps) (defScope s_free_steps) .none kV_free_steps dc_free_steps pm_free_steps an_free_steps cd_free_steps ct_free_steps), sl_free_steps⟩)
    (c_free_steps : PySem.W.codeIn K cd_free_steps "free_steps" = true)
    (k_free_steps : PySem.W.keepIn K (.ref f_free_steps) = true)
    (a_leads_round : PySem.W.nsIn K mainGlobals "leads_round" = some (some (.ref f_leads_round)))
    (l_leads_round : K.lookup f_leads_round = some ⟨oc_leads_round, od_leads_round, .func (PySem.W.fnOf "leads_round" "leads_round" (defArgs s_leads_round) (defBody s_leads_round) (defScope s_leads_round) .none kV_leads_round dc_leads_round pm_leads_round an_leads_round cd_leads_round ct_leads_round), sl_leads_round⟩)
    (c_leads_round : PySem.W.codeIn K cd_leads_round "leads_round" = true)
    (k_leads_round : PySem.W.keepIn K (.ref f_leads_round) = true)
    (a_is_reached : PySem.W.nsIn K mainGlobals "is_reached" = some (some (.ref f_is_reached)))
    (l_is_reached : K.lookup f_is_reached = some ⟨oc_is_reached, od_is_reached, .func (PySem.W.fnOf "is_reached" "is_reached" (defArgs s_is_reached) (defBody s_is_reached) (defScope s_is_reached) .none kV_is_reached dc_is_reached pm_is_reached an_is_reached cd_is_reached ct_is_reached), sl_is_reached⟩)
    (c_is_reached : PySem.W.codeIn K cd_is_reached "is_reached" = true)
    (k_is_reached : PySem.W.keepIn K (.ref f_is_reached) = true)
    (a_follows : PySem.W.nsIn K mainGlobals "follows" = some (some (.ref f_follows)))
    (l_follows : K.lookup f_follows = some ⟨oc_follows, od_follows, .func (PySem.W.fnOf "follows" "follows" (defArgs s_follows) (defBody s_follows) (defScope s_follows) .none kV_follows dc_follows pm_follows an_follows cd_follows ct_follows), sl_follows⟩)
    (c_follows : PySem.W.codeIn K cd_follows "follows" = true)
    (k_follows : PySem.W.keepIn K (.ref f_follows) = true)
    (a_staying : PySem.W.nsIn K mainGlobals "staying" = some (some (.ref f_staying)))
    (l_staying : K.lookup f_staying = some ⟨oc_staying, od_staying, .func (PySem.W.fnOf "staying" "staying" (defArgs s_staying) (defBody s_staying) (defScope s_staying) .none kV_staying dc_staying pm_staying an_staying cd_staying ct_staying), sl_staying⟩)
    (c_staying : PySem.W.codeIn K cd_staying "staying" = true)
    (k_staying : PySem.W.keepIn K (.ref f_staying) = true)
    (a_plan_of : PySem.W.nsIn K mainGlobals "plan_of" = some (some (.ref f_plan_of)))
    (l_plan_of : K.lookup f_plan_of = some ⟨oc_plan_of, od_plan_of, .func (PySem.W.fnOf "plan_of" "plan_of" (defArgs s_plan_of) (defBody s_plan_of) (defScope s_plan_of) .none kV_plan_of dc_plan_of pm_plan_of an_plan_of cd_plan_of ct_plan_of), sl_plan_of⟩)
    (c_plan_of : PySem.W.codeIn K cd_plan_of "plan_of" = true)
    (k_plan_of : PySem.W.keepIn K (.ref f_plan_of) = true)
    (a_seen : PySem.W.nsIn K mainGlobals "seen" = some (some (.ref f_seen)))
    (l_seen : K.lookup f_seen = some ⟨oc_seen, od_seen, .func (PySem.W.fnOf "seen" "seen" (defArgs s_seen) (defBody s_seen) (defScope s_seen) .none kV_seen dc_seen pm_seen an_seen cd_seen ct_seen), sl_seen⟩)
    (c_seen : PySem.W.codeIn K cd_seen "seen" = true)
    (k_seen : PySem.W.keepIn K (.ref f_seen) = true)
    (a_need_logs : PySem.W.nsIn K mainGlobals "need_logs" = some (some (.ref f_need_logs)))
    (l_need_logs : K.lookup f_need_logs = some ⟨oc_need_logs, od_need_logs, .func (PySem.W.fnOf "need_logs" "need_logs" (defArgs s_need_logs) (defBody s_need_logs) (defScope s_need_logs) .none kV_need_logs dc_need_logs pm_need_logs an_need_logs cd_need_logs ct_need_logs), sl_need_logs⟩)
    (c_need_logs : PySem.W.codeIn K cd_need_logs "need_logs" = true)
    (k_need_logs : PySem.W.keepIn K (.ref f_need_logs) = true)
    (a_widen : PySem.W.nsIn K mainGlobals "widen" = some (some (.ref f_widen)))
    (l_widen : K.lookup f_widen = some ⟨oc_widen, od_widen, .func (PySem.W.fnOf "widen" "widen" (defArgs s_widen) (defBody s_widen) (defScope s_widen) .none kV_widen dc_widen pm_widen an_widen cd_widen ct_widen), sl_widen⟩)
    (c_widen : PySem.W.codeIn K cd_widen "widen" = true)
    (k_widen : PySem.W.keepIn K (.ref f_widen) = true)
    (a_leads_of : PySem.W.nsIn K mainGlobals "leads_of" = some (some (.ref f_leads_of)))
    (l_leads_of : K.lookup f_leads_of = some ⟨oc_leads_of, od_leads_of, .func (PySem.W.fnOf "leads_of" "leads_of" (defArgs s_leads_of) (defBody s_leads_of) (defScope s_leads_of) .none kV_leads_of dc_leads_of pm_leads_of an_leads_of cd_leads_of ct_leads_of), sl_leads_of⟩)
    (c_leads_of : PySem.W.codeIn K cd_leads_of "leads_of" = true)
    (k_leads_of : PySem.W.keepIn K (.ref f_leads_of) = true)
    (a_learnt : PySem.W.nsIn K mainGlobals "learnt" = some (some (.ref f_learnt)))
    (l_learnt : K.lookup f_learnt = some ⟨oc_learnt, od_learnt, .func (PySem.W.fnOf "learnt" "learnt" (defArgs s_learnt) (defBody s_learnt) (defScope s_learnt) .none kV_learnt dc_learnt pm_learnt an_learnt cd_learnt ct_learnt), sl_learnt⟩)
    (c_learnt : PySem.W.codeIn K cd_learnt "learnt" = true)
    (k_learnt : PySem.W.keepIn K (.ref f_learnt) = true)
    (a__law_cell : PySem.W.nsIn K mainGlobals "_law_cell" = some (some (.ref f__law_cell)))
    (l__law_cell : K.lookup f__law_cell = some ⟨oc__law_cell, od__law_cell, .func (PySem.W.fnOf "_law_cell" "_law_cell" (defArgs s_law_cell) (defBody s_law_cell) (defScope s_law_cell) .none kV__law_cell dc__law_cell pm__law_cell an__law_cell cd__law_cell ct__law_cell), sl__law_cell⟩)
    (c__law_cell : PySem.W.codeIn K cd__law_cell "_law_cell" = true)
    (k__law_cell : PySem.W.keepIn K (.ref f__law_cell) = true)
    (a__law_box : PySem.W.nsIn K mainGlobals "_law_box" = some (some (.ref f__law_box)))
    (l__law_box : K.lookup f__law_box = some ⟨oc__law_box, od__law_box, .func (PySem.W.fnOf "_law_box" "_law_box" (defArgs s_law_box) (defBody s_law_box) (defScope s_law_box) .none kV__law_box dc__law_box pm__law_box an__law_box cd__law_box ct__law_box), sl__law_box⟩)
    (c__law_box : PySem.W.codeIn K cd__law_box "_law_box" = true)
    (k__law_box : PySem.W.keepIn K (.ref f__law_box) = true)
    (a__law_take : PySem.W.nsIn K mainGlobals "_law_take" = some (some (.ref f__law_take)))
    (l__law_take : K.lookup f__law_take = some ⟨oc__law_take, od__law_take, .func (PySem.W.fnOf "_law_take" "_law_take" (defArgs s_law_take) (defBody s_law_take) (defScope s_law_take) .none kV__law_take dc__law_take pm__law_take an__law_take cd__law_take ct__law_take), sl__law_take⟩)
    (c__law_take : PySem.W.codeIn K cd__law_take "_law_take" = true)
    (k__law_take : PySem.W.keepIn K (.ref f__law_take) = true)
    (a__law_mixed : PySem.W.nsIn K mainGlobals "_law_mixed" = some (some (.ref f__law_mixed)))
    (l__law_mixed : K.lookup f__law_mixed = some ⟨oc__law_mixed, od__law_mixed, .func (PySem.W.fnOf "_law_mixed" "_law_mixed" (defArgs s_law_mixed) (defBody s_law_mixed) (defScope s_law_mixed) .none kV__law_mixed dc__law_mixed pm__law_mixed an__law_mixed cd__law_mixed ct__law_mixed), sl__law_mixed⟩)
    (c__law_mixed : PySem.W.codeIn K cd__law_mixed "_law_mixed" = true)
    (k__law_mixed : PySem.W.keepIn K (.ref f__law_mixed) = true)
    (a__law_names : PySem.W.nsIn K mainGlobals "_law_names" = some (some (.ref f__law_names)))
    (l__law_names : K.lookup f__law_names = some ⟨oc__law_names, od__law_names, .func (PySem.W.fnOf "_law_names" "_law_names" (defArgs s_law_names) (defBody s_law_names) (defScope s_law_names) .none kV__law_names dc__law_names pm__law_names an__law_names cd__law_names ct__law_names), sl__law_names⟩)
    (c__law_names : PySem.W.codeIn K cd__law_names "_law_names" = true)
    (k__law_names : PySem.W.keepIn K (.ref f__law_names) = true)
    (a__law_lag : PySem.W.nsIn K mainGlobals "_law_lag" = some (some (.ref f__law_lag)))
    (l__law_lag : K.lookup f__law_lag = some ⟨oc__law_lag, od__law_lag, .func (PySem.W.fnOf "_law_lag" "_law_lag" (defArgs s_law_lag) (defBody s_law_lag) (defScope s_law_lag) .none kV__law_lag dc__law_lag pm__law_lag an__law_lag cd__law_lag ct__law_lag), sl__law_lag⟩)
    (c__law_lag : PySem.W.codeIn K cd__law_lag "_law_lag" = true)
    (k__law_lag : PySem.W.keepIn K (.ref f__law_lag) = true)
    (a__law_model : PySem.W.nsIn K mainGlobals "_law_model" = some (some (.ref f__law_model)))
    (l__law_model : K.lookup f__law_model = some ⟨oc__law_model, od__law_model, .func (PySem.W.fnOf "_law_model" "_law_model" (defArgs s_law_model) (defBody s_law_model) (defScope s_law_model) .none kV__law_model dc__law_model pm__law_model an__law_model cd__law_model ct__law_model), sl__law_model⟩)
    (c__law_model : PySem.W.codeIn K cd__law_model "_law_model" = true)
    (k__law_model : PySem.W.keepIn K (.ref f__law_model) = true)
    (a__law_plan : PySem.W.nsIn K mainGlobals "_law_plan" = some (some (.ref f__law_plan)))
    (l__law_plan : K.lookup f__law_plan = some ⟨oc__law_plan, od__law_plan, .func (PySem.W.fnOf "_law_plan" "_law_plan" (defArgs s_law_plan) (defBody s_law_plan) (defScope s_law_plan) .none kV__law_plan dc__law_plan pm__law_plan an__law_plan cd__law_plan ct__law_plan), sl__law_plan⟩)
    (c__law_plan : PySem.W.codeIn K cd__law_plan "_law_plan" = true)
    (k__law_plan : PySem.W.keepIn K (.ref f__law_plan) = true)
    (a__law_small : PySem.W.nsIn K mainGlobals "_law_small" = some (some (.ref f__law_small)))
    (l__law_small : K.lookup f__law_small = some ⟨oc__law_small, od__law_small, .func (PySem.W.fnOf "_law_small" "_law_small" (defArgs s_law_small) (defBody s_law_small) (defScope s_law_small) .none kV__law_small dc__law_small pm__law_small an__law_small cd__law_small ct__law_small), sl__law_small⟩)
    (c__law_small : PySem.W.codeIn K cd__law_small "_law_small" = true)
    (k__law_small : PySem.W.keepIn K (.ref f__law_small) = true)
    (a__law_is_moment : PySem.W.nsIn K mainGlobals "_law_is_moment" = some (some (.ref f__law_is_moment)))
    (l__law_is_moment : K.lookup f__law_is_moment = some ⟨oc__law_is_moment, od__law_is_moment, .func (PySem.W.fnOf "_law_is_moment" "_law_is_moment" (defArgs s_law_is_moment) (defBody s_law_is_moment) (defScope s_law_is_moment) .none kV__law_is_moment dc__law_is_moment pm__law_is_moment an__law_is_moment cd__law_is_moment ct__law_is_moment), sl__law_is_moment⟩)
    (c__law_is_moment : PySem.W.codeIn K cd__law_is_moment "_law_is_moment" = true)
    (k__law_is_moment : PySem.W.keepIn K (.ref f__law_is_moment) = true)
    (a__law_read : PySem.W.nsIn K mainGlobals "_law_read" = some (some (.ref f__law_read)))
    (l__law_read : K.lookup f__law_read = some ⟨oc__law_read, od__law_read, .func (PySem.W.fnOf "_law_read" "_law_read" (defArgs s_law_read) (defBody s_law_read) (defScope s_law_read) .none kV__law_read dc__law_read pm__law_read an__law_read cd__law_read ct__law_read), sl__law_read⟩)
    (c__law_read : PySem.W.codeIn K cd__law_read "_law_read" = true)
    (k__law_read : PySem.W.keepIn K (.ref f__law_read) = true)
    (a__law_run : PySem.W.nsIn K mainGlobals "_law_run" = some (some (.ref f__law_run)))
    (l__law_run : K.lookup f__law_run = some ⟨oc__law_run, od__law_run, .func (PySem.W.fnOf "_law_run" "_law_run" (defArgs s_law_run) (defBody s_law_run) (defScope s_law_run) .none kV__law_run dc__law_run pm__law_run an__law_run cd__law_run ct__law_run), sl__law_run⟩)
    (c__law_run : PySem.W.codeIn K cd__law_run "_law_run" = true)
    (k__law_run : PySem.W.keepIn K (.ref f__law_run) = true)
    (a__law_lists : PySem.W.nsIn K mainGlobals "_law_lists" = some (some (.ref f__law_lists)))
    (l__law_lists : K.lookup f__law_lists = some ⟨oc__law_lists, od__law_lists, .func (PySem.W.fnOf "_law_lists" "_law_lists" (defArgs s_law_lists) (defBody s_law_lists) (defScope s_law_lists) .none kV__law_lists dc__law_lists pm__law_lists an__law_lists cd__law_lists ct__law_lists), sl__law_lists⟩)
    (c__law_lists : PySem.W.codeIn K cd__law_lists "_law_lists" = true)
    (k__law_lists : PySem.W.keepIn K (.ref f__law_lists) = true)
    (a__law_hidden : PySem.W.nsIn K mainGlobals "_law_hidden" = some (some (.ref f__law_hidden)))
    (l__law_hidden : K.lookup f__law_hidden = some ⟨oc__law_hidden, od__law_hidden, .func (PySem.W.fnOf "_law_hidden" "_law_hidden" (defArgs s_law_hidden) (defBody s_law_hidden) (defScope s_law_hidden) .none kV__law_hidden dc__law_hidden pm__law_hidden an__law_hidden cd__law_hidden ct__law_hidden), sl__law_hidden⟩)
    (c__law_hidden : PySem.W.codeIn K cd__law_hidden "_law_hidden" = true)
    (k__law_hidden : PySem.W.keepIn K (.ref f__law_hidden) = true)
    (a__law_fits : PySem.W.nsIn K mainGlobals "_law_fits" = some (some (.ref f__law_fits)))
    (l__law_fits : K.lookup f__law_fits = some ⟨oc__law_fits, od__law_fits, .func (PySem.W.fnOf "_law_fits" "_law_fits" (defArgs s_law_fits) (defBody s_law_fits) (defScope s_law_fits) .none kV__law_fits dc__law_fits pm__law_fits an__law_fits cd__law_fits ct__law_fits), sl__law_fits⟩)
    (c__law_fits : PySem.W.codeIn K cd__law_fits "_law_fits" = true)
    (k__law_fits : PySem.W.keepIn K (.ref f__law_fits) = true)
    (a__law_is_run : PySem.W.nsIn K mainGlobals "_law_is_run" = some (some (.ref f__law_is_run)))
    (l__law_is_run : K.lookup f__law_is_run = some ⟨oc__law_is_run, od__law_is_run, .func (PySem.W.fnOf "_law_is_run" "_law_is_run" (defArgs s_law_is_run) (defBody s_law_is_run) (defScope s_law_is_run) .none kV__law_is_run dc__law_is_run pm__law_is_run an__law_is_run cd__law_is_run ct__law_is_run), sl__law_is_run⟩)
    (c__law_is_run : PySem.W.codeIn K cd__law_is_run "_law_is_run" = true)
    (k__law_is_run : PySem.W.keepIn K (.ref f__law_is_run) = true)
    (a_law : PySem.W.nsIn K mainGlobals "law" = some (some (.ref f_law)))
    (l_law : K.lookup f_law = some ⟨oc_law, od_law, .func (PySem.W.fnOf "law" "law" (defArgs s_law) (defBody s_law) (defScope s_law) .none kV_law dc_law pm_law an_law cd_law ct_law), sl_law⟩)
    (c_law : PySem.W.codeIn K cd_law "law" = true)
    (k_law : PySem.W.keepIn K (.ref f_law) = true)
    (aC : PySem.W.nsIn K mainGlobals "Plan" = some (some (.ref C)))
    (pgC : PySem.W.plainGet K C Str.empty = true)
    (hdC : PySem.W.hasDictIn K C = true)
    (poC : PySem.W.plainOver K C = true)
    (saC : PySem.W.findIn K (.ref C) "__setattr__" = some (some (.builtin "object.__setattr__")))
    (mkC : PySem.W.makesIn K C = true)
    (kpC : PySem.W.keepIn K (.ref C) = true)
    (n_order : PySem.W.findIn K (.ref C) "order" = some none)
    (n_rows : PySem.W.findIn K (.ref C) "rows" = some none)
    (n_caps : PySem.W.findIn K (.ref C) "caps" = some none)
    (haC : PySem.W.findIn K (.ref C) "__class__" = some (some (.builtin "object.__class__")))
    (hnC : PySem.W.specialIn K (.builtin "object.__class__") "__get__" = some (some (.builtin "getset_descriptor.__get__")))
    (htC : PySem.W.takesIn K (.builtin "object.__class__") = some true)
    (hmC : PySem.W.mroIn K C (.type "object") = some true)
    (isC : PySem.W.kitOne K (.ref C) (.ref C) = some true)
    (a_Plan_events : PySem.W.findIn K (.ref C) "events" = some (some (.ref f_Plan_events)))
    (i_Plan_events : PySem.W.isFn K (.ref f_Plan_events) = true)
    (l_Plan_events : K.lookup f_Plan_events = some ⟨oc_Plan_events, od_Plan_events, .func (PySem.W.fnOf "events" "Plan.events" (defArgs s_Plan_events) (defBody s_Plan_events) (defScope s_Plan_events) .none kV_Plan_events dc_Plan_events pm_Plan_events an_Plan_events cd_Plan_events ct_Plan_events), sl_Plan_events⟩)
    (c_Plan_events : PySem.W.codeIn K cd_Plan_events "Plan.events" = true)
    (k_Plan_events : PySem.W.keepIn K (.ref f_Plan_events) = true)
    (a_Plan_ties : PySem.W.findIn K (.ref C) "ties" = some (some (.ref f_Plan_ties)))
    (i_Plan_ties : PySem.W.isFn K (.ref f_Plan_ties) = true)
    (l_Plan_ties : K.lookup f_Plan_ties = some ⟨oc_Plan_ties, od_Plan_ties, .func (PySem.W.fnOf "ties" "Plan.ties" (defArgs s_Plan_ties) (defBody s_Plan_ties) (defScope s_Plan_ties) .none kV_Plan_ties dc_Plan_ties pm_Plan_ties an_Plan_ties cd_Plan_ties ct_Plan_ties), sl_Plan_ties⟩)
    (c_Plan_ties : PySem.W.codeIn K cd_Plan_ties "Plan.ties" = true)
    (k_Plan_ties : PySem.W.keepIn K (.ref f_Plan_ties) = true)
    (a_Plan_limits : PySem.W.findIn K (.ref C) "limits" = some (some (.ref f_Plan_limits)))
    (i_Plan_limits : PySem.W.isFn K (.ref f_Plan_limits) = true)
    (l_Plan_limits : K.lookup f_Plan_limits = some ⟨oc_Plan_limits, od_Plan_limits, .func (PySem.W.fnOf "limits" "Plan.limits" (defArgs s_Plan_limits) (defBody s_Plan_limits) (defScope s_Plan_limits) .none kV_Plan_limits dc_Plan_limits pm_Plan_limits an_Plan_limits cd_Plan_limits ct_Plan_limits), sl_Plan_limits⟩)
    (c_Plan_limits : PySem.W.codeIn K cd_Plan_limits "Plan.limits" = true)
    (k_Plan_limits : PySem.W.keepIn K (.ref f_Plan_limits) = true)
    (a_init : PySem.W.findIn K (.ref C) "__init__" = some (some (.ref f_init)))
    (i_init : PySem.W.isFn K (.ref f_init) = true)
    (l_init : K.lookup f_init = some ⟨oc_init, od_init, .func (PySem.W.fnOf "__init__" "Plan.__init__" (defArgs s_Plan___init__) (defBody s_Plan___init__) (defScope s_Plan___init__) (.ref T_init) (.ref kD_init) dc_init pm_init an_init cd_init ct_init), sl_init⟩)
    (c_init : PySem.W.codeIn K cd_init "Plan.__init__" = true)
    (k_init : PySem.W.keepIn K (.ref f_init) = true)
    (t_init : K.lookup T_init = some ⟨ocT, odT, .seq [Value.ref U_init].toArray nT, slT⟩)
    (u_init : K.lookup U_init = some ⟨.type "tuple", odU, .seq [].toArray nU, slU⟩)
    (w_init : PySem.W.nsIn K kD_init "limits" = some (some .none))
    (xa_InvalidPlan : PySem.W.nsIn K mainGlobals "InvalidPlan" = some (some (.ref E_InvalidPlan)))
    (xl_InvalidPlan : K.lookup E_InvalidPlan = some (excClassObj nm_InvalidPlan q_InvalidPlan E_InvalidPlan N_InvalidPlan bs_InvalidPlan bm_InvalidPlan true sn_InvalidPlan sb_InvalidPlan ab_InvalidPlan co_InvalidPlan dd_InvalidPlan k0_InvalidPlan k1_InvalidPlan k2_InvalidPlan k3_InvalidPlan k5_InvalidPlan "ValueError.__new__"))
    (xu_InvalidPlan : Er.Above bm_InvalidPlan "ValueError")
    (xo_InvalidPlan : PySem.W.excOver K E_InvalidPlan PySem.Er.vT = true)
    (xs_InvalidPlan : PySem.W.findIn K (.ref E_InvalidPlan) "__setattr__" = some (some (.builtin "object.__setattr__")))
    (xg_InvalidPlan : PySem.W.findIn K (.ref E_InvalidPlan) "__getattribute__" = some (some (.builtin "BaseException.__getattribute__")))
    (xh_InvalidPlan : PySem.W.findIn K (.ref E_InvalidPlan) "__getattr__" = some none)
    (xn_InvalidPlan : PySem.W.findIn K (.ref E_InvalidPlan) "value" = some none)
    (xi_InvalidPlan : PySem.W.findIn K (.ref E_InvalidPlan) "__init__" = some (some (.ref fe_InvalidPlan)))
    (xt_InvalidPlan : PySem.W.typeIn K (.ref fe_InvalidPlan) = some (.type "function"))
    (xk_InvalidPlan : PySem.W.keepIn K (.ref E_InvalidPlan) = true)
    (xe_InvalidPlan : PySem.W.subIn K (.ref E_InvalidPlan) (.type "BaseException") = some true)
    (xy_InvalidPlan : PySem.W.typeIn K (.ref E_InvalidPlan) = some (.type "type"))
    (xd_InvalidPlan : PySem.W.hasDictIn K E_InvalidPlan = true)
    (xc_InvalidPlan : PySem.W.isClsIn K E_InvalidPlan = true)
    (xf_InvalidPlan : K.lookup fe_InvalidPlan = some ⟨oc_InvalidPlan, od_InvalidPlan, .func (PySem.W.fnOf "__init__" "InvalidPlan.__init__" (PySem.Er.iA "value" p1_InvalidPlan p2_InvalidPlan) (PySem.Er.iB "value" q1_InvalidPlan q2_InvalidPlan q3_InvalidPlan q4_InvalidPlan) (PySem.Er.iS "value") .none .none dc_InvalidPlan pm_InvalidPlan an_InvalidPlan cd_InvalidPlan ct_InvalidPlan), sl_InvalidPlan⟩)
    (xq_InvalidPlan : PySem.W.codeIn K cd_InvalidPlan "InvalidPlan.__init__" = true)
    (z_all : PySem.W.nsIn K mainGlobals "all" = some none)
    (z_any : PySem.W.nsIn K mainGlobals "any" = some none)
    (z_bool : PySem.W.nsIn K mainGlobals "bool" = some none)
    (z_dict : PySem.W.nsIn K mainGlobals "dict" = some none)
    (z_enumerate : PySem.W.nsIn K mainGlobals "enumerate" = some none)
    (z_int : PySem.W.nsIn K mainGlobals "int" = some none)
    (z_isinstance : PySem.W.nsIn K mainGlobals "isinstance" = some none)
    (z_len : PySem.W.nsIn K mainGlobals "len" = some none)
    (z_list : PySem.W.nsIn K mainGlobals "list" = some none)
    (z_max : PySem.W.nsIn K mainGlobals "max" = some none)
    (z_min : PySem.W.nsIn K mainGlobals "min" = some none)
    (z_range : PySem.W.nsIn K mainGlobals "range" = some none)
    (z_reversed : PySem.W.nsIn K mainGlobals "reversed" = some none)
    (z_sorted : PySem.W.nsIn K mainGlobals "sorted" = some none)
    (z_str : PySem.W.nsIn K mainGlobals "str" = some none)
    (z_sum : PySem.W.nsIn K mainGlobals "sum" = some none)
    (z_tuple : PySem.W.nsIn K mainGlobals "tuple" = some none)
    (z_NOTHING : PySem.W.nsIn K mainGlobals "NOTHING" = some (some (.str ("" : Str) t_NOTHING)))
    (z_LETTERS : PySem.W.nsIn K mainGlobals "LETTERS" = some (some (.str ("abcdefghijklmnopqrstuvwxyz" : Str) t_LETTERS)))
    (z_LONGEST_NAME : PySem.W.nsIn K mainGlobals "LONGEST_NAME" = some (some (.int 8 t_LONGEST_NAME)))
    (z_BILLION : PySem.W.nsIn K mainGlobals "BILLION" = some (some (.int 1000000000 t_BILLION)))
    (z_MOST_EVENTS : PySem.W.nsIn K mainGlobals "MOST_EVENTS" = some (some (.int 8 t_MOST_EVENTS)))
    (z_MOST_TIES : PySem.W.nsIn K mainGlobals "MOST_TIES" = some (some (.int 60 t_MOST_TIES)))
    (z_MOST_LOGS : PySem.W.nsIn K mainGlobals "MOST_LOGS" = some (some (.int 80 t_MOST_LOGS)))
    (z_LONGEST_LOG : PySem.W.nsIn K mainGlobals "LONGEST_LOG" = some (some (.int 200 t_LONGEST_LOG))) :
    ∃ fd : FuncData, (∀ (s : Shared) (v : Value), BindsTo s fd ⟨[v], []⟩ [("_law_script", v)]) ∧ ∀ base : Heap, K.In base → base.Ns mainGlobals mg → FnG l.prog w K mg base CX0 10 fa fd ["_law_script"] (spLaw K) := by
  have e := hfa.symm.trans (PySem.W.mg_of X G a_law)
  cases e
  have T : Txt mg := ⟨PySem.W.mg_none_of X G z_all, PySem.W.mg_none_of X G z_any, PySem.W.mg_none_of X G z_bool, PySem.W.mg_none_of X G z_dict, PySem.W.mg_none_of X G z_enumerate, PySem.W.mg_none_of X G z_int, PySem.W.mg_none_of X G z_isinstance, PySem.W.mg_none_of X G z_len, PySem.W.mg_none_of X G z_list, PySem.W.mg_none_of X G z_max, PySem.W.mg_none_of X G z_min, PySem.W.mg_none_of X G z_range, PySem.W.mg_none_of X G z_reversed, PySem.W.mg_none_of X G z_sorted, PySem.W.mg_none_of X G z_str, PySem.W.mg_none_of X G z_sum, PySem.W.mg_none_of X G z_tuple, ⟨_, PySem.W.mg_of X G z_NOTHING⟩, ⟨_, PySem.W.mg_of X G z_LETTERS⟩, ⟨_, PySem.W.mg_of X G z_LONGEST_NAME⟩, ⟨_, PySem.W.mg_of X G z_BILLION⟩, ⟨_, PySem.W.mg_of X G z_MOST_EVENTS⟩, ⟨_, PySem.W.mg_of X G z_MOST_TIES⟩, ⟨_, PySem.W.mg_of X G z_MOST_LOGS⟩, ⟨_, PySem.W.mg_of X G z_LONGEST_LOG⟩⟩
  have F_total := fun_mk (st := s_total) l_total c_total k_total
  have b_total := F_total.binds (ps := ["counts"]) fun _ _ _ _ _ _ us hl => match us, hl with | [_], _ => rfl
  have F_is_integer := fun_mk (st := s_is_integer) l_is_integer c_is_integer k_is_integer
  have b_is_integer := F_is_integer.binds (ps := ["value"]) fun _ _ _ _ _ _ us hl => match us, hl with | [_], _ => rfl
  have F_is_count := fun_mk (st := s_is_count) l_is_count c_is_count k_is_count
  have b_is_count := F_is_count.binds (ps := ["value"]) fun _ _ _ _ _ _ us hl => match us, hl with | [_], _ => rfl
  have F_is_name := fun_mk (st := s_is_name) l_is_name c_is_name k_is_name
  have b_is_name := F_is_name.binds (ps := ["value"]) fun _ _ _ _ _ _ us hl => match us, hl with | [_], _ => rfl
  have F_need_events := fun_mk (st := s_need_events) l_need_events c_need_events k_need_events
  have b_need_events := F_need_events.binds (ps := ["events"]) fun _ _ _ _ _ _ us hl => match us, hl with | [_], _ => rfl
  have F_need_event := fun_mk (st := s_need_event) l_need_event c_need_event k_need_event
  have b_need_event := F_need_event.binds (ps := ["events", "event"]) fun _ _ _ _ _ _ us hl => match us, hl with | [_, _], _ => rfl
  have F_need_tie := fun_mk (st := s_need_tie) l_need_tie c_need_tie k_need_tie
  have b_need_tie := F_need_tie.binds (ps := ["events", "tie"]) fun _ _ _ _ _ _ us hl => match us, hl with | [_, _], _ => rfl
  have F_need_ties := fun_mk (st := s_need_ties) l_need_ties c_need_ties k_need_ties
  have b_need_ties := F_need_ties.binds (ps := ["events", "ties"]) fun _ _ _ _ _ _ us hl => match us, hl with | [_, _], _ => rfl
  have F_need_limits := fun_mk (st := s_need_limits) l_need_limits c_need_limits k_need_limits
  have b_need_limits := F_need_limits.binds (ps := ["events", "limits"]) fun _ _ _ _ _ _ us hl => match us, hl with | [_, _], _ => rfl
  have F_ringed := fun_mk (st := s_ringed) l_ringed c_ringed k_ringed
  have b_ringed := F_ringed.binds (ps := ["events", "ties"]) fun _ _ _ _ _ _ us hl => match us, hl with | [_, _], _ => rfl
  have F_need_plan := fun_mk (st := s_need_plan) l_need_plan c_need_plan k_need_plan
  have b_need_plan := F_need_plan.binds (ps := ["plan"]) fun _ _ _ _ _ _ us hl => match us, hl with | [_], _ => rfl
  have F_need_like := fun_mk (st := s_need_like) l_need_like c_need_like k_need_like
  have b_need_like := F_need_like.binds (ps := ["events", "plan"]) fun _ _ _ _ _ _ us hl => match us, hl with | [_, _], _ => rfl
  have F_need_alike_events := fun_mk (st := s_need_alike_events) l_need_alike_events c_need_alike_events k_need_alike_events
  have b_need_alike_events := F_need_alike_events.binds (ps := ["one", "other"]) fun _ _ _ _ _ _ us hl => match us, hl with | [_, _], _ => rfl
  have F_need_different := fun_mk (st := s_need_different) l_need_different c_need_different k_need_different
  have b_need_different := F_need_different.binds (ps := ["plan", "names"]) fun _ _ _ _ _ _ us hl => match us, hl with | [_, _], _ => rfl
  have F_need_names := fun_mk (st := s_need_names) l_need_names c_need_names k_need_names
  have b_need_names := F_need_names.binds (ps := ["plan", "names"]) fun _ _ _ _ _ _ us hl => match us, hl with | [_, _], _ => rfl
  have F_least_moment := fun_mk (st := s_least_moment) l_least_moment c_least_moment k_least_moment
  have b_least_moment := F_least_moment.binds (ps := ["sums", "event", "count"]) fun _ _ _ _ _ _ us hl => match us, hl with | [_, _, _], _ => rfl
  have F_places_of := fun_mk (st := s_places_of) l_places_of c_places_of k_places_of
  have b_places_of := F_places_of.binds (ps := ["plan"]) fun _ _ _ _ _ _ us hl => match us, hl with | [_], _ => rfl
  have F_placed_rows := fun_mk (st := s_placed_rows) l_placed_rows c_placed_rows k_placed_rows
  have b_placed_rows := F_placed_rows.binds (ps := ["plan"]) fun _ _ _ _ _ _ us hl => match us, hl with | [_], _ => rfl
  have F_close := fun_mk (st := s_close) l_close c_close k_close
  have b_close := F_close.binds (ps := ["places", "placed"]) fun _ _ _ _ _ _ us hl => match us, hl with | [_, _], _ => rfl
  have F_closed_sums := fun_mk (st := s_closed_sums) l_closed_sums c_closed_sums k_closed_sums
  have b_closed_sums := F_closed_sums.binds (ps := ["plan"]) fun _ _ _ _ _ _ us hl => match us, hl with | [_], _ => rfl
  have F_is_above := fun_mk (st := s_is_above) l_is_above c_is_above k_is_above
  have b_is_above := F_is_above.binds (ps := ["greatest", "bound"]) fun _ _ _ _ _ _ us hl => match us, hl with | [_, _], _ => rfl
  have F_breaches := fun_mk (st := s_breaches) l_breaches c_breaches k_breaches
  have b_breaches := F_breaches.binds (ps := ["sums", "plan"]) fun _ _ _ _ _ _ us hl => match us, hl with | [_, _], _ => rfl
  have F_beyond := fun_mk (st := s_beyond) l_beyond c_beyond k_beyond
  have b_beyond := F_beyond.binds (ps := ["sums", "plan"]) fun _ _ _ _ _ _ us hl => match us, hl with | [_, _], _ => rfl
  have F_within := fun_mk (st := s_within) l_within c_within k_within
  have b_within := F_within.binds (ps := ["one", "other"]) fun _ _ _ _ _ _ us hl => match us, hl with | [_, _], _ => rfl
  have F_free_steps := fun_mk (st := s_free_steps) l_free_steps c_free_steps k_free_steps
  have b_free_steps := F_free_steps.binds (ps := ["limits", "events"]) fun _ _ _ _ _ _ us hl => match us, hl with | [_, _], _ => rfl
  have F_leads_round := fun_mk (st := s_leads_round) l_leads_round c_leads_round k_leads_round
  have b_leads_round := F_leads_round.binds (ps := ["sums", "tie"]) fun _ _ _ _ _ _ us hl => match us, hl with | [_, _], _ => rfl
  have F_is_reached := fun_mk (st := s_is_reached) l_is_reached c_is_reached k_is_reached
  have b_is_reached := F_is_reached.binds (ps := ["steps", "first", "last"]) fun _ _ _ _ _ _ us hl => match us, hl with | [_, _, _], _ => rfl
  have F_follows := fun_mk (st := s_follows) l_follows c_follows k_follows
  have b_follows := F_follows.binds (ps := ["sums", "others", "tie"]) fun _ _ _ _ _ _ us hl => match us, hl with | [_, _, _], _ => rfl
  have F_staying := fun_mk (st := s_staying) l_staying c_staying k_staying
  have b_staying := F_staying.binds (ps := ["sums", "ties", "free"]) fun _ _ _ _ _ _ us hl => match us, hl with | [_, _, _], _ => rfl
  have F_plan_of := fun_mk (st := s_plan_of) l_plan_of c_plan_of k_plan_of
  have b_plan_of := F_plan_of.binds (ps := ["events", "sums"]) fun _ _ _ _ _ _ us hl => match us, hl with | [_, _], _ => rfl
  have F_seen := fun_mk (st := s_seen) l_seen c_seen k_seen
  have b_seen := F_seen.binds (ps := ["plan", "names"]) fun _ _ _ _ _ _ us hl => match us, hl with | [_, _], _ => rfl
  have F_need_logs := fun_mk (st := s_need_logs) l_need_logs c_need_logs k_need_logs
  have b_need_logs := F_need_logs.binds (ps := ["events", "logs"]) fun _ _ _ _ _ _ us hl => match us, hl with | [_, _], _ => rfl
  have F_widen := fun_mk (st := s_widen) l_widen c_widen k_widen
  have b_widen := F_widen.binds (ps := ["known", "log"]) fun _ _ _ _ _ _ us hl => match us, hl with | [_, _], _ => rfl
  have F_leads_of := fun_mk (st := s_leads_of) l_leads_of c_leads_of k_leads_of
  have b_leads_of := F_leads_of.binds (ps := ["events", "logs"]) fun _ _ _ _ _ _ us hl => match us, hl with | [_, _], _ => rfl
  have F_learnt := fun_mk (st := s_learnt) l_learnt c_learnt k_learnt
  have b_learnt := F_learnt.binds (ps := ["events", "logs"]) fun _ _ _ _ _ _ us hl => match us, hl with | [_, _], _ => rfl
  have F__law_cell := fun_mk (st := s_law_cell) l__law_cell c__law_cell k__law_cell
  have b__law_cell := F__law_cell.binds (ps := ["_law_script", "_law_k"]) fun _ _ _ _ _ _ us hl => match us, hl with | [_, _], _ => rfl
  have F__law_box := fun_mk (st := s_law_box) l__law_box c__law_box k__law_box
  have b__law_box := F__law_box.binds (ps := ["_law_cell_here"]) fun _ _ _ _ _ _ us hl => match us, hl with | [_], _ => rfl
  have F__law_take := fun_mk (st := s_law_take) l__law_take c__law_take k__law_take
  have b__law_take := F__law_take.binds (ps := ["_law_box_here", "_law_many"]) fun _ _ _ _ _ _ us hl => match us, hl with | [_, _], _ => rfl
  have F__law_mixed := fun_mk (st := s_law_mixed) l__law_mixed c__law_mixed k__law_mixed
  have b__law_mixed := F__law_mixed.binds (ps := ["_law_box_here", "_law_some"]) fun _ _ _ _ _ _ us hl => match us, hl with | [_, _], _ => rfl
  have F__law_names := fun_mk (st := s_law_names) l__law_names c__law_names k__law_names
  have b__law_names := F__law_names.binds (ps := ["_law_box_here", "_law_many"]) fun _ _ _ _ _ _ us hl => match us, hl with | [_, _], _ => rfl
  have F__law_lag := fun_mk (st := s_law_lag) l__law_lag c__law_lag k__law_lag
  have b__law_lag := F__law_lag.binds (ps := ["_law_box_here"]) fun _ _ _ _ _ _ us hl => match us, hl with | [_], _ => rfl
  have F__law_model := fun_mk (st := s_law_model) l__law_model c__law_model k__law_model
  have b__law_model := F__law_model.binds (ps := ["_law_box_here", "_law_many", "_law_most"]) fun _ _ _ _ _ _ us hl => match us, hl with | [_, _, _], _ => rfl
  have F__law_plan := fun_mk (st := s_law_plan) l__law_plan c__law_plan k__law_plan
  have b__law_plan := F__law_plan.binds (ps := ["_law_model_here"]) fun _ _ _ _ _ _ us hl => match us, hl with | [_], _ => rfl
  have F__law_small := fun_mk (st := s_law_small) l__law_small c__law_small k__law_small
  have b__law_small := F__law_small.binds (ps := ["_law_box_here", "_law_many"]) fun _ _ _ _ _ _ us hl => match us, hl with | [_, _], _ => rfl
  have F__law_is_moment := fun_mk (st := s_law_is_moment) l__law_is_moment c__law_is_moment k__law_is_moment
  have b__law_is_moment := F__law_is_moment.binds (ps := ["_law_model_here", "_law_counts"]) fun _ _ _ _ _ _ us hl => match us, hl with | [_, _], _ => rfl
  have F__law_read := fun_mk (st := s_law_read) l__law_read c__law_read k__law_read
  have b__law_read := F__law_read.binds (ps := ["_law_sheet"]) fun _ _ _ _ _ _ us hl => match us, hl with | [_], _ => rfl
  have F__law_run := fun_mk (st := s_law_run) l__law_run c__law_run k__law_run
  have b__law_run := F__law_run.binds (ps := ["_law_box_here", "_law_model_here", "_law_many"]) fun _ _ _ _ _ _ us hl => match us, hl with | [_, _, _], _ => rfl
  have F__law_lists := fun_mk (st := s_law_lists) l__law_lists c__law_lists k__law_lists
  have b__law_lists := F__law_lists.binds (ps := ["_law_marks", "_law_most"]) fun _ _ _ _ _ _ us hl => match us, hl with | [_, _], _ => rfl
  have F__law_hidden := fun_mk (st := s_law_hidden) l__law_hidden c__law_hidden k__law_hidden
  have b__law_hidden := F__law_hidden.binds (ps := ["_law_model_here", "_law_states", "_law_hidden_here"]) fun _ _ _ _ _ _ us hl => match us, hl with | [_, _, _], _ => rfl
  have F__law_fits := fun_mk (st := s_law_fits) l__law_fits c__law_fits k__law_fits
  have b__law_fits := F__law_fits.binds (ps := ["_law_model_here", "_law_names_here", "_law_row"]) fun _ _ _ _ _ _ us hl => match us, hl with | [_, _, _], _ => rfl
  have F__law_is_run := fun_mk (st := s_law_is_run) l__law_is_run c__law_is_run k__law_is_run
  have b__law_is_run := F__law_is_run.binds (ps := ["_law_model_here", "_law_row"]) fun _ _ _ _ _ _ us hl => match us, hl with | [_, _], _ => rfl
  have F_law := fun_mk (st := s_law) l_law c_law k_law
  have CC : Cls K C := ⟨pgC, hdC, poC, saC⟩
  have F_Plan_events := fun_mk (st := s_Plan_events) l_Plan_events c_Plan_events k_Plan_events
  have b_Plan_events := F_Plan_events.binds (ps := ["self"]) fun _ _ _ _ _ _ us hl => match us, hl with | [_], _ => rfl
  have F_Plan_ties := fun_mk (st := s_Plan_ties) l_Plan_ties c_Plan_ties k_Plan_ties
  have b_Plan_ties := F_Plan_ties.binds (ps := ["self"]) fun _ _ _ _ _ _ us hl => match us, hl with | [_], _ => rfl
  have F_Plan_limits := fun_mk (st := s_Plan_limits) l_Plan_limits c_Plan_limits k_Plan_limits
  have b_Plan_limits := F_Plan_limits.binds (ps := ["self"]) fun _ _ _ _ _ _ us hl => match us, hl with | [_], _ => rfl
  have F_init : FunD K "__init__" "Plan.__init__" (defArgs s_Plan___init__) (defBody s_Plan___init__) (defScope s_Plan___init__) [.ref U_init] [("limits", .non)] f_init _ := ⟨⟨oc_init, od_init, .ref T_init, .ref kD_init, dc_init, pm_init, an_init, cd_init, ct_init, sl_init, rfl, l_init, c_init, .inr ⟨by simp, T_init, _, [Value.ref U_init], nT, rfl, t_init, rfl, .cons rfl .nil⟩, .inr ⟨kD_init, rfl, fun q hq => by
    simp only [List.mem_cons, List.not_mem_nil, or_false] at hq
    rcases hq with rfl
    exact ⟨.none, w_init, rfl⟩⟩⟩, k_init⟩
  obtain ⟨d_init, rd_init, b_init⟩ := F_init.binds (ps := ["self", "events", "ties", "limits"]) 3 1 (by simp) rfl (fun T D doc pm an cdv ct us its ks h1 h2 h3 => match us, its, ks, h1, h2, h3 with
    | [_, _, _], [_], [_], _, _, _ => ⟨_, rfl, _, _, _, _, _, _, rfl, rfl, rfl⟩) (by simp)
  obtain ⟨d1_init, rd1_init, b1_init⟩ := F_init.binds (ps := ["self", "events", "ties", "limits"]) 2 0 (by simp) rfl (fun T D doc pm an cdv ct us its ks h1 h2 h3 => match us, its, ks, h1, h2, h3 with
    | [_, _], [_], [_], _, _, _ => ⟨_, rfl, _, _, _, _, _, _, rfl, rfl, rfl⟩) (by simp)
  obtain ⟨j_init, m_init, kb_init⟩ := F_init.kbinds (ps := ["self", "events", "ties", "limits"]) 3 ["limits"] [] (fun us its mv ws => us ++ ws) (by simp) (by simp) (fun q hq => nomatch hq) (fun r1 r2 r3 r4 => r1.append r4) fun T D doc pm an cdv ct us its mv ws h1 h2 h3 h4 => match us, its, mv, ws, h1, h2, h3, h4 with
    | [_, _, _], [_], [], [_], _, _, _, _ => ⟨_, rfl, rfl⟩
  have e_InvalidPlan : ErrTxt K mg "InvalidPlan" "value" E_InvalidPlan fe_InvalidPlan := { ff := by decide, gC := PySem.W.mg_of X G xa_InvalidPlan, cls := ⟨nm_InvalidPlan, q_InvalidPlan, N_InvalidPlan, bs_InvalidPlan, bm_InvalidPlan, sn_InvalidPlan, sb_InvalidPlan, ab_InvalidPlan, co_InvalidPlan, dd_InvalidPlan, k0_InvalidPlan, k1_InvalidPlan, k2_InvalidPlan, k3_InvalidPlan, k5_InvalidPlan, .inl ⟨xl_InvalidPlan, xu_InvalidPlan⟩⟩, over := .inl xo_InvalidPlan, sa := xs_InvalidPlan, ga := xg_InvalidPlan, gg := xh_InvalidPlan, noN := xn_InvalidPlan, iC := xi_InvalidPlan, tC := xt_InvalidPlan, kC := xk_InvalidPlan, exC := xe_InvalidPlan, tyC := xy_InvalidPlan, hdC := xd_InvalidPlan, isC := xc_InvalidPlan, fn := ⟨_, _, _, _, _, _, _, _, _, _, _, _, _, _, _, xf_InvalidPlan, xq_InvalidPlan⟩ }
  refine ⟨PySem.W.fnOf "law" "law" (defArgs s_law) (defBody s_law) (defScope s_law) .none kV_law dc_law pm_law an_law cd_law ct_law, fun s v => .of_eq rfl, fun base _ _ => ?_⟩
  have PC : PlanC K C := ⟨CC, n_order, n_rows, n_caps⟩
  have PI : PlanI K C := ⟨PC, haC, hnC, htC, hmC, isC⟩
  have m_Plan := PySem.W.mg_of X G aC
  have cint := Cal.mk0 (ok_is_integer (P := l.prog) (w := w) (base := base) F_is_integer T) (PySem.W.mg_of X G a_is_integer) F_is_integer.kp b_is_integer
  have ccnt := Cal.mk0 (ok_is_count (P := l.prog) (w := w) (base := base) F_is_count T cint) (PySem.W.mg_of X G a_is_count) F_is_count.kp b_is_count
  have cname := Cal.mk0 (ok_is_name (P := l.prog) (w := w) (base := base) F_is_name T) (PySem.W.mg_of X G a_is_name) F_is_name.kp b_is_name
  have cnevs := Cal.mk0 (ok_need_events (P := l.prog) (w := w) (base := base) F_need_events T cname) (PySem.W.mg_of X G a_need_events) F_need_events.kp b_need_events
  have cnev := Cal.mk0 (ok_need_event (P := l.prog) (w := w) (K := K) (base := base) F_need_event T) (PySem.W.mg_of X G a_need_event) F_need_event.kp b_need_event
  have cntie := Cal.mk0 (ok_need_tie (P := l.prog) (w := w) (base := base) F_need_tie T cnev ccnt) (PySem.W.mg_of X G a_need_tie) F_need_tie.kp b_need_tie
  have cnties := Cal.mk0 (ok_need_ties (P := l.prog) (w := w) (base := base) F_need_ties T cntie) (PySem.W.mg_of X G a_need_ties) F_need_ties.kp b_need_ties
  have cnlims := Cal.mk0 (ok_need_limits (P := l.prog) (w := w) (base := base) F_need_limits T ccnt) (PySem.W.mg_of X G a_need_limits) F_need_limits.kp b_need_limits
  have cring := Cal.mk0 (ok_ringed (P := l.prog) (w := w) (K := K) (base := base) F_ringed T) (PySem.W.mg_of X G a_ringed) F_ringed.kp b_ringed
  have okI := ok_init (P := l.prog) (w := w) (base := base) F_init T PC cnevs cnties cnlims cring
  have cPlan : CalMk l.prog w K mg base CX0 5 "Plan" C "limits" (spInit K C) := ⟨f_init, _, _, d_init, _, ⟨mkC, a_init, i_init, kpC⟩, okI, m_Plan, b_init, rd_init, kb_init⟩
  have mEvents : CalM l.prog w K mg base 1 C "events" (spPEvents K C) := ⟨f_Plan_events, _, _, ok_p_events F_Plan_events T PC, b_Plan_events, a_Plan_events, i_Plan_events, k_Plan_events⟩
  have mTies : CalM l.prog w K mg base 1 C "ties" (spPTies K C) := ⟨f_Plan_ties, _, _, ok_p_ties F_Plan_ties T PC, b_Plan_ties, a_Plan_ties, i_Plan_ties, k_Plan_ties⟩
  have mLimits : CalM l.prog w K mg base 1 C "limits" (spPLimits K C) := ⟨f_Plan_limits, _, _, ok_p_limits F_Plan_limits T PC, b_Plan_limits, a_Plan_limits, i_Plan_limits, k_Plan_limits⟩
  have cnp := CalX.mk0 (ok_need_plan (P := l.prog) (w := w) (base := base) F_need_plan T PI m_Plan e_InvalidPlan) (PySem.W.mg_of X G a_need_plan) F_need_plan.kp b_need_plan
  have cpl := Cal.mk0 (ok_places_of (P := l.prog) (w := w) (base := base) F_places_of T PI mEvents) (PySem.W.mg_of X G a_places_of) F_places_of.kp b_places_of
  have crows := Cal.mk0 (ok_placed_rows F_placed_rows T PI mEvents mTies mLimits) (PySem.W.mg_of X G a_placed_rows) F_placed_rows.kp b_placed_rows
  have cclose := Cal.mk0 (ok_close (P := l.prog) (w := w) (K := K) (base := base) F_close T) (PySem.W.mg_of X G a_close) F_close.kp b_close
  have ccell := Cal.mk0 (ok_cell (P := l.prog) (w := w) (K := K) (base := base) F__law_cell T) (PySem.W.mg_of X G a__law_cell) F__law_cell.kp b__law_cell
  have cbox := Cal.mk0 (ok_box (P := l.prog) (w := w) (K := K) (base := base) F__law_box T) (PySem.W.mg_of X G a__law_box) F__law_box.kp b__law_box
  have ctake := Cal.mk0 (ok_take (P := l.prog) (w := w) (K := K) (base := base) F__law_take T) (PySem.W.mg_of X G a__law_take) F__law_take.kp b__law_take
  have cmix := Cal.mk0 (ok_mixed (K := K) F__law_mixed T ctake) (PySem.W.mg_of X G a__law_mixed) F__law_mixed.kp b__law_mixed
  have cnames := Cal.mk0 (ok_names (K := K) F__law_names T ctake) (PySem.W.mg_of X G a__law_names) F__law_names.kp b__law_names
  have clag := Cal.mk0 (ok_lag (K := K) F__law_lag T ctake) (PySem.W.mg_of X G a__law_lag) F__law_lag.kp b__law_lag
  have cmodel := Cal.mk0 (ok_model (K := K) F__law_model T ctake cnames cmix clag) (PySem.W.mg_of X G a__law_model) F__law_model.kp b__law_model
  have cplan := Cal.mk0 (ok_plan F__law_plan T cPlan) (PySem.W.mg_of X G a__law_plan) F__law_plan.kp b__law_plan
  have m_total := PySem.W.mg_of X G a_total
  have cread := Cal.mk0 (ok_read (P := l.prog) (w := w) (K := K) (base := base) F__law_read T PI mEvents mTies mLimits) (PySem.W.mg_of X G a__law_read) F__law_read.kp b__law_read
  have cismom := Cal.mk0 (ok_is_moment (P := l.prog) (w := w) (K := K) (base := base) F__law_is_moment T) (PySem.W.mg_of X G a__law_is_moment) F__law_is_moment.kp b__law_is_moment
  have csmall := Cal.mk0 (ok_small (P := l.prog) (w := w) (K := K) (base := base) F__law_small T cmodel) (PySem.W.mg_of X G a__law_small) F__law_small.kp b__law_small
  have ccs := Cal.mk0 (ok_closed_sm (P := l.prog) (w := w) (K := K) (base := base) F_closed_sums T cclose cpl crows) (PySem.W.mg_of X G a_closed_sums) F_closed_sums.kp b_closed_sums
  have cabove := Cal.mk0 (ok_is_above (P := l.prog) (w := w) (K := K) (base := base) F_is_above T) (PySem.W.mg_of X G a_is_above) F_is_above.kp b_is_above
  have cfreeS := Cal.mk0 (ok_free_stepsS (P := l.prog) (w := w) (K := K) (base := base) F_free_steps T) (PySem.W.mg_of X G a_free_steps) F_free_steps.kp b_free_steps
  have cround := Cal.mk0 (ok_leads_round (P := l.prog) (w := w) (K := K) (base := base) F_leads_round T) (PySem.W.mg_of X G a_leads_round) F_leads_round.kp b_leads_round
  have creach := Cal.mk0 (ok_is_reached (P := l.prog) (w := w) (K := K) (base := base) F_is_reached T) (PySem.W.mg_of X G a_is_reached) F_is_reached.kp b_is_reached
  have cfollows := Cal.mk0 (ok_follows (P := l.prog) (w := w) (K := K) (base := base) F_follows T cround creach) (PySem.W.mg_of X G a_follows) F_follows.kp b_follows
  have cstay := Cal.mk0 (ok_staying (P := l.prog) (w := w) (K := K) (base := base) F_staying T cfollows) (PySem.W.mg_of X G a_staying) F_staying.kp b_staying
  have cplanofS := Cal.mk0 (ok_plan_ofS (P := l.prog) (w := w) (K := K) (base := base) F_plan_of T cPlan cabove cfreeS cstay) (PySem.W.mg_of X G a_plan_of) F_plan_of.kp b_plan_of
  have cplanof := Cal.mk0 (ok_plan_of (P := l.prog) (w := w) (K := K) (base := base) F_plan_of T cPlan cabove cfreeS cstay) (PySem.W.mg_of X G a_plan_of) F_plan_of.kp b_plan_of
  have cdiff := Cal.mk0 (ok_need_different (P := l.prog) (w := w) (K := K) (base := base) F_need_different T PI mEvents cnev) (PySem.W.mg_of X G a_need_different) F_need_different.kp b_need_different
  have cnnames := Cal.mk0 (ok_need_names (P := l.prog) (w := w) (K := K) (base := base) F_need_names T cdiff) (PySem.W.mg_of X G a_need_names) F_need_names.kp b_need_names
  have cseen := Cal.mk0 (ok_seen (P := l.prog) (w := w) (K := K) (base := base) F_seen T PI mEvents cnp cnnames ccs cplanof) (PySem.W.mg_of X G a_seen) F_seen.kp b_seen
  have clm := Cal.mk0 (ok_least_none (P := l.prog) (w := w) (K := K) (base := base) F_least_moment) (PySem.W.mg_of X G a_least_moment) F_least_moment.kp b_least_moment
  have cnlike := Cal.mk0 (ok_need_like (P := l.prog) (w := w) (K := K) (base := base) F_need_like T PI mEvents cnp) (PySem.W.mg_of X G a_need_like) F_need_like.kp b_need_like
  have calikeev := Cal.mk0 (ok_alike_ev (P := l.prog) (w := w) (K := K) (base := base) F_need_alike_events T PI mEvents cnp cnlike) (PySem.W.mg_of X G a_need_alike_events) F_need_alike_events.kp b_need_alike_events
  have cbreach := Cal.mk0 (ok_breaches (P := l.prog) (w := w) (K := K) (base := base) F_breaches T PI mEvents mTies mLimits cabove clm) (PySem.W.mg_of X G a_breaches) F_breaches.kp b_breaches
  have cbeyond := Cal.mk0 (ok_beyond (P := l.prog) (w := w) (K := K) (base := base) F_beyond T m_total cbreach) (PySem.W.mg_of X G a_beyond) F_beyond.kp b_beyond
  have cwithin := Cal.mk0 (ok_within (P := l.prog) (w := w) (K := K) (base := base) F_within T calikeev ccs cbeyond) (PySem.W.mg_of X G a_within) F_within.kp b_within
  have cnlogs := Cal.mk0 (ok_need_logs (P := l.prog) (w := w) (K := K) (base := base) F_need_logs T cnev) (PySem.W.mg_of X G a_need_logs) F_need_logs.kp b_need_logs
  have cwiden := Cal.mk0 (ok_widen (P := l.prog) (w := w) (K := K) (base := base) F_widen T) (PySem.W.mg_of X G a_widen) F_widen.kp b_widen
  have clof := Cal.mk0 (ok_leads_of (P := l.prog) (w := w) (K := K) (base := base) F_leads_of T cwiden) (PySem.W.mg_of X G a_leads_of) F_leads_of.kp b_leads_of
  have clearnt := Cal.mk0 (ok_learnt (P := l.prog) (w := w) (K := K) (base := base) F_learnt T cnevs cnlogs clof cplanofS) (PySem.W.mg_of X G a_learnt) F_learnt.kp b_learnt
  have crun := Cal.mk0 (ok_run (P := l.prog) (w := w) (K := K) (base := base) F__law_run T ctake cismom) (PySem.W.mg_of X G a__law_run) F__law_run.kp b__law_run
  have clists := Cal.mk0 (ok_lists (P := l.prog) (w := w) (K := K) (base := base) F__law_lists T) (PySem.W.mg_of X G a__law_lists) F__law_lists.kp b__law_lists
  have chid := Cal.mk0 (ok_hidden (P := l.prog) (w := w) (K := K) (base := base) F__law_hidden T cismom) (PySem.W.mg_of X G a__law_hidden) F__law_hidden.kp b__law_hidden
  have cfits := Cal.mk0 (ok_fits (P := l.prog) (w := w) (K := K) (base := base) F__law_fits T cismom chid) (PySem.W.mg_of X G a__law_fits) F__law_fits.kp b__law_fits
  have cisrun := Cal.mk0 (ok_is_run (P := l.prog) (w := w) (K := K) (base := base) F__law_is_run T cismom) (PySem.W.mg_of X G a__law_is_run) F__law_is_run.kp b__law_is_run
  exact ok_law F_law T PI ccell cbox ctake cmix csmall cplan cseen cread clists cisrun cfits crun clearnt cwithin
end Pk
open PySem PySem.W PyProof.Rows
set_option maxHeartbeats 0 in
theorem PySem.Challenge.cw_pileups_k92_whole_runs_and_what_is_seen_holds : PySem.Challenge.rw_pileups_k92_whole_runs_and_what_is_seen.Holds := by
  w_on; o_law; k_head; (case hw => w_witness2)
  k_fill
  refine Pu.walk_G (l := PySem.Challenge.rw_pileups_k92_whole_runs_and_what_is_seen) (n := 63) (k := 10) (x := "_law_script") (sp := fun w => Pk.spLaw _) rfl (by decide) rfl ⟨rfl, by decide, by decide⟩ (fun w h Y => PySem.W.kIn_of Y) ?F (fun _ _ a ns hl hS => ⟨a, ns, rfl, hS, hl, fun _ => rfl⟩)
  case F =>
    intro w mg fa h KX G hmg
    refine' Pk.all_mk KX G hmg ?a_total ?l_total ?c_total ?k_total ?a_is_integer ?l_is_integer ?c_is_integer ?k_is_integer ?a_is_count ?l_is_count ?c_is_count ?k_is_count ?a_is_name ?l_is_name ?c_is_name ?k_is_name ?a_need_events ?l_need_events ?c_need_events ?k_need_events ?a_need_event ?l_need_event ?c_need_event ?k_need_event ?a_need_tie ?l_need_tie ?c_need_tie ?k_need_tie ?a_need_ties ?l_need_ties ?c_need_ties ?k_need_ties ?a_need_limits ?l_need_limits ?c_need_limits ?k_need_limits ?a_ringed ?l_ringed ?c_ringed ?k_ringed ?a_need_plan ?l_need_plan ?c_need_plan ?k_need_plan ?a_need_like ?l_need_like ?c_need_like ?k_need_like ?a_need_alike_events ?l_need_alike_events ?c_need_alike_events ?k_need_alike_events ?a_need_different ?l_need_different ?c_need_different ?k_need_different ?a_need_names ?l_need_names ?c_need_names ?k_need_names ?a_least_moment ?l_least_moment ?c_least_moment ?k_least_moment ?a_places_of ?l_places_of ?c_places_of ?k_places_of ?a_placed_rows ?l_placed_rows ?c_placed_rows ?k_placed_rows ?a_close ?l_close ?c_close ?k_close ?a_closed_sums ?l_closed_sums ?c_closed_sums ?k_closed_sums ?a_is_above ?l_is_above ?c_is_above ?k_is_above ?a_breaches ?l_breaches ?c_breaches ?k_breaches ?a_beyond ?l_beyond ?c_beyond ?k_beyond ?a_within ?l_within ?c_within ?k_within ?a_free_steps ?l_free_steps ?c_free_steps ?k_free_steps ?a_leads_round ?l_leads_round ?c_leads_round ?k_leads_round ?a_is_reached ?l_is_reached ?c_is_reached ?k_is_reached ?a_follows ?l_follows ?c_follows ?k_follows ?a_staying ?l_staying ?c_staying ?k_staying ?a_plan_of ?l_plan_of ?c_plan_of ?k_plan_of ?a_seen ?l_seen ?c_seen ?k_seen ?a_need_logs ?l_need_logs ?c_need_logs ?k_need_logs ?a_widen ?l_widen ?c_widen ?k_widen ?a_leads_of ?l_leads_of ?c_leads_of ?k_leads_of ?a_learnt ?l_learnt ?c_learnt ?k_learnt ?a__law_cell ?l__law_cell ?c__law_cell ?k__law_cell ?a__law_box ?l__law_box ?c__law_box ?k__law_box ?a__law_take ?l__law_take ?c__law_take ?k__law_take ?a__law_mixed ?l__law_mixed ?c__law_mixed ?k__law_mixed ?a__law_names ?l__law_names ?c__law_names ?k__law_names ?a__law_lag ?l__law_lag ?c__law_lag ?k__law_lag ?a__law_model ?l__law_model ?c__law_model ?k__law_model ?a__law_plan ?l__law_plan ?c__law_plan ?k__law_plan ?a__law_small ?l__law_small ?c__law_small ?k__law_small ?a__law_is_moment ?l__law_is_moment ?c__law_is_moment ?k__law_is_moment ?a__law_read ?l__law_read ?c__law_read ?k__law_read ?a__law_run ?l__law_run ?c__law_run ?k__law_run ?a__law_lists ?l__law_lists ?c__law_lists ?k__law_lists ?a__law_hidden ?l__law_hidden ?c__law_hidden ?k__law_hidden ?a__law_fits ?l__law_fits ?c__law_fits ?k__law_fits ?a__law_is_run ?l__law_is_run ?c__law_is_run ?k__law_is_run ?a_law ?l_law ?c_law ?k_law ?aC ?pgC ?hdC ?poC ?saC ?mkC ?kpC ?n_order ?n_rows ?n_caps ?haC ?hnC ?htC ?hmC ?isC ?a_Plan_events ?i_Plan_events ?l_Plan_events ?c_Plan_events ?k_Plan_events ?a_Plan_ties ?i_Plan_ties ?l_Plan_ties ?c_Plan_ties ?k_Plan_ties ?a_Plan_limits ?i_Plan_limits ?l_Plan_limits ?c_Plan_limits ?k_Plan_limits ?a_init ?i_init ?l_init ?c_init ?k_init ?t_init ?u_init ?w_init ?xa_InvalidPlan ?xl_InvalidPlan ?xu_InvalidPlan ?xo_InvalidPlan ?xs_InvalidPlan ?xg_InvalidPlan ?xh_InvalidPlan ?xn_InvalidPlan ?xi_InvalidPlan ?xt_InvalidPlan ?xk_InvalidPlan ?xe_InvalidPlan ?xy_InvalidPlan ?xd_InvalidPlan ?xc_InvalidPlan ?xf_InvalidPlan ?xq_InvalidPlan ?z_all ?z_any ?z_bool ?z_dict ?z_enumerate ?z_int ?z_isinstance ?z_len ?z_list ?z_max ?z_min ?z_range ?z_reversed ?z_sorted ?z_str ?z_sum ?z_tuple ?z_NOTHING ?z_LETTERS ?z_LONGEST_NAME ?z_BILLION ?z_MOST_EVENTS ?z_MOST_TIES ?z_MOST_LOGS ?z_LONGEST_LOG
    (case a_total => k_is)
    (case l_total => k_is)
    (case c_total => k_is)
    (case k_total => k_is)
    (case a_is_integer => k_is)
    (case l_is_integer => k_is)
    (case c_is_integer => k_is)
    (case k_is_integer => k_is)
    (case a_is_count => k_is)
    (case l_is_count => k_is)
    (case c_is_count => k_is)
    (case k_is_count => k_is)
    (case a_is_name => k_is)
    (case l_is_name => k_is)
    (case c_is_name => k_is)
    (case k_is_name => k_is)
    (case a_need_events => k_is)
    (case l_need_events => k_is)
    (case c_need_events => k_is)
    (case k_need_events => k_is)
    (case a_need_event => k_is)
    (case l_need_event => k_is)
    (case c_need_event => k_is)
    (case k_need_event => k_is)
    (case a_need_tie => k_is)
    (case l_need_tie => k_is)
    (case c_need_tie => k_is)
    (case k_need_tie => k_is)
    (case a_need_ties => k_is)
    (case l_need_ties => k_is)
    (case c_need_ties => k_is)
    (case k_need_ties => k_is)
    (case a_need_limits => k_is)
    (case l_need_limits => k_is)
    (case c_need_limits => k_is)
    (case k_need_limits => k_is)
    (case a_ringed => k_is)
    (case l_ringed => k_is)
    (case c_ringed => k_is)
    (case k_ringed => k_is)
    (case a_need_plan => k_is)
    (case l_need_plan => k_is)
    (case c_need_plan => k_is)
    (case k_need_plan => k_is)
    (case a_need_like => k_is)
    (case l_need_like => k_is)
    (case c_need_like => k_is)
    (case k_need_like => k_is)
    (case a_need_alike_events => k_is)
    (case l_need_alike_events => k_is)
    (case c_need_alike_events => k_is)
    (case k_need_alike_events => k_is)
    (case a_need_different => k_is)
    (case l_need_different => k_is)
    (case c_need_different => k_is)
    (case k_need_different => k_is)
    (case a_need_names => k_is)
    (case l_need_names => k_is)
    (case c_need_names => k_is)
    (case k_need_names => k_is)
    (case a_least_moment => k_is)
    (case l_least_moment => k_is)
    (case c_least_moment => k_is)
    (case k_least_moment => k_is)
    (case a_places_of => k_is)
    (case l_places_of => k_is)
    (case c_places_of => k_is)
    (case k_places_of => k_is)
    (case a_placed_rows => k_is)
    (case l_placed_rows => k_is)
    (case c_placed_rows => k_is)
    (case k_placed_rows => k_is)
    (case a_close => k_is)
    (case l_close => k_is)
    (case c_close => k_is)
    (case k_close => k_is)
    (case a_closed_sums => k_is)
    (case l_closed_sums => k_is)
    (case c_closed_sums => k_is)
    (case k_closed_sums => k_is)
    (case a_is_above => k_is)
    (case l_is_above => k_is)
    (case c_is_above => k_is)
    (case k_is_above => k_is)
    (case a_breaches => k_is)
    (case l_breaches => k_is)
    (case c_breaches => k_is)
    (case k_breaches => k_is)
    (case a_beyond => k_is)
    (case l_beyond => k_is)
    (case c_beyond => k_is)
    (case k_beyond => k_is)
    (case a_within => k_is)
    (case l_within => k_is)
    (case c_within => k_is)
    (case k_within => k_is)
    (case a_free_steps => k_is)
    (case l_free_steps => k_is)
    (case c_free_steps => k_is)
    (case k_free_steps => k_is)
    (case a_leads_round => k_is)
    (case l_leads_round => k_is)
    (case c_leads_round => k_is)
    (case k_leads_round => k_is)
    (case a_is_reached => k_is)
    (case l_is_reached => k_is)
    (case c_is_reached => k_is)
    (case k_is_reached => k_is)
    (case a_follows => k_is)
    (case l_follows => k_is)
    (case c_follows => k_is)
    (case k_follows => k_is)
    (case a_staying => k_is)
    (case l_staying => k_is)
    (case c_staying => k_is)
    (case k_staying => k_is)
    (case a_plan_of => k_is)
    (case l_plan_of => k_is)
    (case c_plan_of => k_is)
    (case k_plan_of => k_is)
    (case a_seen => k_is)
    (case l_seen => k_is)
    (case c_seen => k_is)
    (case k_seen => k_is)
    (case a_need_logs => k_is)
    (case l_need_logs => k_is)
    (case c_need_logs => k_is)
    (case k_need_logs => k_is)
    (case a_widen => k_is)
    (case l_widen => k_is)
    (case c_widen => k_is)
    (case k_widen => k_is)
    (case a_leads_of => k_is)
    (case l_leads_of => k_is)
    (case c_leads_of => k_is)
    (case k_leads_of => k_is)
    (case a_learnt => k_is)
    (case l_learnt => k_is)
    (case c_learnt => k_is)
    (case k_learnt => k_is)
    (case a__law_cell => k_is)
    (case l__law_cell => k_is)
    (case c__law_cell => k_is)
    (case k__law_cell => k_is)
    (case a__law_box => k_is)
    (case l__law_box => k_is)
    (case c__law_box => k_is)
    (case k__law_box => k_is)
    (case a__law_take => k_is)
    (case l__law_take => k_is)
    (case c__law_take => k_is)
    (case k__law_take => k_is)
    (case a__law_mixed => k_is)
    (case l__law_mixed => k_is)
    (case c__law_mixed => k_is)
    (case k__law_mixed => k_is)
    (case a__law_names => k_is)
    (case l__law_names => k_is)
    (case c__law_names => k_is)
    (case k__law_names => k_is)
    (case a__law_lag => k_is)
    (case l__law_lag => k_is)
    (case c__law_lag => k_is)
    (case k__law_lag => k_is)
    (case a__law_model => k_is)
    (case l__law_model => k_is)
    (case c__law_model => k_is)
    (case k__law_model => k_is)
    (case a__law_plan => k_is)
    (case l__law_plan => k_is)
    (case c__law_plan => k_is)
    (case k__law_plan => k_is)
    (case a__law_small => k_is)
    (case l__law_small => k_is)
    (case c__law_small => k_is)
    (case k__law_small => k_is)
    (case a__law_is_moment => k_is)
    (case l__law_is_moment => k_is)
    (case c__law_is_moment => k_is)
    (case k__law_is_moment => k_is)
    (case a__law_read => k_is)
    (case l__law_read => k_is)
    (case c__law_read => k_is)
    (case k__law_read => k_is)
    (case a__law_run => k_is)
    (case l__law_run => k_is)
    (case c__law_run => k_is)
    (case k__law_run => k_is)
    (case a__law_lists => k_is)
    (case l__law_lists => k_is)
    (case c__law_lists => k_is)
    (case k__law_lists => k_is)
    (case a__law_hidden => k_is)
    (case l__law_hidden => k_is)
    (case c__law_hidden => k_is)
    (case k__law_hidden => k_is)
    (case a__law_fits => k_is)
    (case l__law_fits => k_is)
    (case c__law_fits => k_is)
    (case k__law_fits => k_is)
    (case a__law_is_run => k_is)
    (case l__law_is_run => k_is)
    (case c__law_is_run => k_is)
    (case k__law_is_run => k_is)
    (case a_law => k_is)
    (case l_law => k_is)
    (case c_law => k_is)
    (case k_law => k_is)
    (case aC => k_is)
    (case pgC => k_is)
    (case hdC => k_is)
    (case poC => k_is)
    (case saC => k_is)
    (case mkC => k_is)
    (case kpC => k_is)
    (case n_order => k_is)
    (case n_rows => k_is)
    (case n_caps => k_is)
    (case haC => k_is)
    (case hnC => k_is)
    (case htC => k_is)
    (case hmC => k_is)
    (case isC => first | k_is | rfl)
    (case a_Plan_events => k_is)
    (case i_Plan_events => k_is)
    (case l_Plan_events => k_is)
    (case c_Plan_events => k_is)
    (case k_Plan_events => k_is)
    (case a_Plan_ties => k_is)
    (case i_Plan_ties => k_is)
    (case l_Plan_ties => k_is)
    (case c_Plan_ties => k_is)
    (case k_Plan_ties => k_is)
    (case a_Plan_limits => k_is)
    (case i_Plan_limits => k_is)
    (case l_Plan_limits => k_is)
    (case c_Plan_limits => k_is)
    (case k_Plan_limits => k_is)
    (case a_init => k_is)
    (case i_init => k_is)
    (case l_init => k_is)
    (case c_init => k_is)
    (case k_init => k_is)
    (case t_init => k_is)
    (case u_init => k_is)
    (case w_init => k_is)
    (case xa_InvalidPlan => k_is)
    (case xl_InvalidPlan => k_is)
    (case xu_InvalidPlan => first | exact ⟨rfl, rfl, rfl⟩ | exact ⟨by decide +kernel, by decide +kernel, by decide +kernel⟩)
    (case xo_InvalidPlan => kx_is)
    (case xs_InvalidPlan => k_is)
    (case xg_InvalidPlan => k_is)
    (case xh_InvalidPlan => k_is)
    (case xn_InvalidPlan => k_is)
    (case xi_InvalidPlan => k_is)
    (case xt_InvalidPlan => k_is)
    (case xk_InvalidPlan => k_is)
    (case xe_InvalidPlan => k_is)
    (case xy_InvalidPlan => k_is)
    (case xd_InvalidPlan => k_is)
    (case xc_InvalidPlan => k_is)
    (case xf_InvalidPlan => k_is)
    (case xq_InvalidPlan => k_is)
    (case z_all => k_is)
    (case z_any => k_is)
    (case z_bool => k_is)
    (case z_dict => k_is)
    (case z_enumerate => k_is)
    (case z_int => k_is)
    (case z_isinstance => k_is)
    (case z_len => k_is)
    (case z_list => k_is)
    (case z_max => k_is)
    (case z_min => k_is)
    (case z_range => k_is)
    (case z_reversed => k_is)
    (case z_sorted => k_is)
    (case z_str => k_is)
    (case z_sum => k_is)
    (case z_tuple => k_is)
    (case z_NOTHING => k_is)
    (case z_LETTERS => k_is)
    (case z_LONGEST_NAME => k_is)
    (case z_BILLION => k_is)
    (case z_MOST_EVENTS => k_is)
    (case z_MOST_TIES => k_is)
    (case z_MOST_LOGS => k_is)
    (case z_LONGEST_LOG => k_is)
