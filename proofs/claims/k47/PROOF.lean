import PyProof.Rows.All
import Wide.All
import OpenK.AllK
import Wide.FinOn
import KE.GoesEnum
import HandS.ForMost
import HandS.DictComp
import HandS.Walk
import HandS.IsInst
import HandS.Wide
import HandS.Ends
import PyProof.ReprRoads
import HandS.Defaults
import HandS.OwnIter
import HandS.NamedTupGet
import KE.KExcInit
import HandS.ForExc
import HandS.TryMany
import PyProof.DictUpdate
import PyProof.DictDisplay
import HandS.Dict
import HandS.Style
import HandS.ListEq
import HandS.DictEq
import PyProof.NeKinds
import HandS.DeepEq
import HandS.MakeKwOnly
import HandS.NoneIn
import HandS.ListItems
import HandS.Star
import PyProof.Rows.StrMeet
import HandS.More
import HandS.RevRange
import HandS.SortRule
import KE.SortData
import KE.OsSortAny
import HandS.SortInts
import HandS.Conv
import KE.KDictList
import HandS.Sort
import KE.KDictZip
import HandS.Zip0
import HandS.Zip
import HandS.List
import HandS.Iter
import PyProof.ReprBulk
import PyProof.ZipIter
import HandS.Finally
import HandS.EndTab
import HandS.EndOwn
import HandS.Head0
import HandS.Head1
import HandS.Head2
import HandS.HeadHook2
import PySem.Challenge.RW_pileups_k47_renamings
set_option Elab.async false
set_option linter.all false
set_option maxRecDepth 100000
set_option maxHeartbeats 4000000
/-! enumerate(tuple) -/
namespace PySem
open Sem (wp)
open AutoSeq1 (wpAny_loadPart')
theorem meets_enumerate_new1 {v : Value} {o : Obj} {H : Heap → Prop} (B : Begins v o H) :
    Meets (Builtin.«enumerate.__new__» ⟨[.type "enumerate", v], []⟩) (fun _ R s => H s.heap ∧
      R (.ok (.ret (.ref (s.heap.push o).objs.size))) { s with heap := (s.heap.push o).push { cls := .type "enumerate", data := .fields #[.none, .bool false, .ref s.heap.objs.size, rawInt 0, .none, .none] } }) :=
  .of_wp fun prog w A R s h => by
    obtain ⟨hp, g, d, tk, os⟩ := s; obtain ⟨h1, h⟩ := h
    have hsub := sub_enumerate
    have q1 : ∀ {A' : Around} {E : Value → Shared → Prop} {Q : Value → Shared → Prop}, Q (.ref hp.objs.size) ⟨hp.push o, g, d, tk, os⟩ → wpAny (model prog w) A' (pyIter v) Q E ⟨hp, g, d, tk, os⟩ :=
      fun q => B.iter prog w _ _ ⟨hp, g, d, tk, os⟩ _ h1 q
    wp_walk using q1
    refine wpAny_stack_any fun st => wpAny_pure ?_
    split
    · rename_i c _ _ _ _ _
      cases (c == Value.type "enumerate")
      · wp_walk using q1
        exact ⟨_, rfl, h⟩
      · wp_walk using q1
        exact ⟨_, rfl, h⟩
    · wp_walk using q1
      exact ⟨_, rfl, h⟩
section
variable {prog : Program} {w : World} {A : Around} {E : Value → Shared → Prop} {s : Shared}
theorem enum_begins1 {v : Value} {o : Obj} {H : Heap → Prop} {Q : Value → Shared → Prop} (B : Begins v o H) (h1 : H s.heap)
    (h : ∀ h', IsEnum h' (s.heap.objs.size + 1) s.heap.objs.size 0 .none → h'.get? s.heap.objs.size = some o → h'.objs.size = s.heap.objs.size + 2 →
      (∀ b o, s.heap.get? b = some o → h'.get? b = some o) → Q (.ref (s.heap.objs.size + 1)) { s with heap := h' }) :
    wpAny (model prog w) A (call (.type "enumerate") [v]) Q E s := by
  refine callType_new F.called_enumerate (by decide) (F.typeCall_enumerate_1 _) (F.newCall_enumerate_1 _) (fun obj => F.args_object_init_2 obj _) F.entry_enumerate_new
    (meets_enumerate_new1 B) ⟨h1, ?_⟩
  have hz : (s.heap.push o).objs.size = s.heap.objs.size + 1 := Heap.size_push ..
  show _ ∧ _
  rw [hz]
  have he : IsEnum ((s.heap.push o).push { cls := .type "enumerate", data := .fields #[.none, .bool false, .ref s.heap.objs.size, rawInt 0, .none, .none] }) (s.heap.objs.size + 1) s.heap.objs.size 0 .none := by
    have := Heap.get?_push_size (s.heap.push o) (o := { cls := .type "enumerate", data := .fields #[.none, .bool false, .ref s.heap.objs.size, rawInt 0, .none, .none] }) rfl
    rw [hz] at this; exact this
  refine ⟨⟨_, he, rfl⟩, h _ he (Heap.get?_push_of_some _ (Heap.get?_push_size _ B.free)) (by rw [Heap.size_push, hz]) fun b o x => Heap.get?_push_of_some _ (Heap.get?_push_of_some _ x)⟩
end
end PySem
namespace L2
open PySem PySem.Spec PyProof.Rows
/-- the tuple at a, each item in a new pair -/
def IteT (K : PySem.W.Frag) (a : Addr) : It :=
  ⟨fun i H => ∃ (xs : List V) (x : V), SqT K H a xs ∧ xs[i]? = some x, fun i H v H' => ∃ T x, v = .ref T ∧ H T = none ∧ H' = upd H T (.tup [.int (i : Nat), x]) ∧ ∀ xs, SqT K H a xs → xs[i]? = some x, fun i H => ∃ xs : List V, SqT K H a xs ∧ xs.length ≤ i⟩
theorem turn_enumT {P : Program} {w : World} {K : PySem.W.Frag} {elts : List Expr} {kk : Nat} {tpos : Pos} (a e it : Addr) (hai : a ≠ it) (hae : a ≠ e) :
    Turn P w K (.Tuple elts kk tpos) (IteT K a) [e, it] e (fun i h => (∃ old, IsEnum h e it ((i : Nat) : Int) old) ∧ h.IsTupleIter it a i ∧ e ≠ it) where
  mem := by simp
  obj := fun i h st b hb => by
    obtain ⟨⟨old, he⟩, ⟨o, ho, hc, hd⟩, _⟩ := st
    have e' : b = e ∨ b = it := by simpa using hb
    rcases e' with z | z
    · rw [z]; exact ⟨_, he, fun v q => nomatch q⟩
    · rw [z]; exact ⟨o, ho, fun v q => by rw [hd] at q; cases q⟩
  keep := fun i h h' st k => let ⟨⟨old, he⟩, hi, hne⟩ := st; ⟨⟨old, k e (by simp) _ he⟩, hi.at fun o q => k it (by simp) o q, hne⟩
  item := by
    intro X hP hw hK hc i pins s σ H E I hf st hg
    subst hP hw hK
    obtain ⟨⟨old, he⟩, hit, hne⟩ := st
    obtain ⟨xs, x, hq, hx⟩ := hg
    obtain ⟨its, rv, p, hz⟩ := I.tuple hq
    obtain ⟨u, hu, ru⟩ := rv.get hx
    have hel : e < s.heap.objs.size := Heap.lt_size he
    have hil : it < s.heap.objs.size := by obtain ⟨_, q, _⟩ := hit; exact Heap.lt_size q
    have hp : s.heap.IsTuple a its.toArray := p
    have hlt : i < its.toArray.size := by
      rcases Nat.lt_or_ge i its.toArray.size with z | z
      · exact z
      · have : its[i]? = none := by simpa using z
        rw [this] at hu; cases hu
    refine wpAny_pyNext_enum_itemD (Draws.tuple (A := X.A.in1) (show X.A.in1.handled = none from I.ok.hd hc) it a hai its.toArray) he ⟨hit, hp⟩ hlt hne (by simp only [List.mem_cons, List.not_mem_nil, or_false, not_or]; exact ⟨hne, Ne.symm hae⟩) fun y h' tk hy ho st' hT hsz hk => ?_
    obtain ⟨hit', hp'⟩ := st'
    have hyu : y = u := by
      have e1 : its.toArray[i]? = some u := by simpa using hu
      rw [e1] at hy; cases hy; rfl
    subst hyu
    refine ⟨_, rfl, wpAny_letOwnedTupleGo_enum (s := { s with heap := h', toks := tk + 1 }) ho fun h'' he' sb => ?_⟩
    have hT2 : h''.get? s.heap.objs.size = some { cls := .type "tuple", data := .seq #[.int i tk, y] } := (sb.2 _ (Nat.ne_of_gt hel)).trans hT
    have new : ObjOk X.prog X.w (upd H s.heap.objs.size (.tup [.int (i : Nat), x])) h'' s.heap.objs.size (.tup [.int (i : Nat), x]) :=
      ⟨by show 2 ≤ sizeLine; decide, [.int i tk, y], .cons ⟨_, rfl⟩ (.cons ru .nil), ⟨_, hT2, rfl, _, rfl⟩⟩
    have I1 : Inv X pins σ (upd H s.heap.objs.size (.tup [.int (i : Nat), x])) { s with heap := h'', toks := tk + 1 } :=
      I.turnedNew (ch := [e, it]) (fun b ob hb q => (sb.2 b (fun z => hb (by simp [z]))).trans (hk b ob (fun z => hb (by simp [z])) (fun z => hb (by simp [z])) q)) hf (Nat.le_refl _) new
    refine ⟨.ref s.heap.objs.size, _, I1, rfl, ⟨_, x, rfl, I.hok.fresh (Nat.le_refl _), rfl, fun ys hy => by rw [I.tuple_inj hy hq]; exact hx⟩, ⟨⟨y, ?_⟩, hit'.at fun o q => (sb.2 it (Ne.symm hne)).trans q, hne⟩, fun b hb => ?_⟩
    · have e1 : ((i + 1 : Nat) : Int) = (i : Int) + 1 := by omega
      rw [e1]; exact he'
    · have hb' : b < s.heap.objs.size := by
        have e' : b = e ∨ b = it := by simpa using hb
        rcases e' with z | z
        · rw [z]; exact hel
        · rw [z]; exact hil
      rw [upd_ne (Nat.ne_of_lt hb')]
      exact (hf b hb).1
  done := by
    intro X hP hw hK hc i pins s σ H E I hf st hg
    subst hP hw hK
    obtain ⟨⟨old, he⟩, hit, hne⟩ := st
    obtain ⟨xs, hq, hx⟩ := hg
    obtain ⟨its, rv, p, hz⟩ := I.tuple hq
    obtain ⟨f0, f1, f2, f3, f4, f5⟩ := hf it (by simp)
    have hl := rv.length
    have hp : s.heap.IsTuple a its.toArray := p
    have hnone : its.toArray[i]? = none := by simp; omega
    have hT : s.TypeIs (.ref e) "enumerate" := ⟨_, he, rfl⟩
    unfold pyNext
    refine wpAny_bind (wpAny_attempt (wpAny_callSpecial?_slot (name := Str.ofString "__next__") hT F.slot_enumerate_next
      (wpAny_call_entry F.slot_enumerate_next hT F.entry_enumerate_next ?_ (F.args_enumerate_next_1 _))))
    show wpAny _ _ (field (.ref e) 2 >>= _) _ _ _
    refine wpAny_bind (wpAny_field he rfl (x := .ref it) rfl ?_)
    refine wpAny_bind (wpAny_nextOf_tuple_end (I.ok.hd hc) hit hp hnone fun h' x eb hx' => ?_)
    obtain ⟨o, ho, hcl⟩ := hx'
    refine wpAny_bind (wpAny_isInstance (T := "StopIteration") (b := true) ⟨o, ho, hcl⟩ isSubtype_stop ?_)
    exact wpAny_pure ⟨rfl, I.turned (t' := s.toks) (fun b o hb q => eb b o hb q) f0 f1 f3 f4 f5⟩
  self := fun A i s Q E st h => let ⟨⟨_, he⟩, _⟩ := st; wpAny_pyIter_enum he h
def iEnumT (K : PySem.W.Frag) (ta : TA) : TI := fun σ H R => ta σ H fun vs H1 => ∃ a xs, vs = [.ref a] ∧ SqT K H1 a xs ∧ R (IteT K a) H1
theorem pi_enumT {X : Cx} {e : Expr} {ta : TA} {p pos tpos : Pos} {elts : List Expr} {kk : Nat} (hg : Gl X "enumerate") (hm : X.mg "enumerate" = none) (ha : PA X [e] ta) (hs : starEach [e] X.env = [(false, eval e X.env)] := by rfl) :
    PI X (.Tuple elts kk tpos) (.Call (.Name "enumerate" p) [e] [] pos) (iEnumT X.K ta) := by
  refine ⟨fun pins s σ H R I h => ?_⟩
  refine Call_ (ld_blt I hg hm boot_enumerate (PyProof.Rows.callWith_type1 (thn (ha.run pos pins s σ H _ I h) fun us s1 ⟨vs, H1, I1, r1, q1⟩ => ?_) hs rfl))
  obtain ⟨a, xs, ex, hq, q⟩ := q1
  subst ex
  cases r1 with
  | cons r rr =>
    cases rr
    cases r
    obtain ⟨its, rv, p', hz⟩ := I1.tuple hq
    have hp : s1.heap.IsTuple a its.toArray := p'
    have hal : a < s1.heap.objs.size := by obtain ⟨_, z, _⟩ := hp; exact Heap.lt_size z
    refine enum_begins1 (begins_tuple a its.toArray) hp fun h' he hit hsz hk => wpAny_pyIter_enum he ?_
    have I2 : Inv X pins σ H1 { s1 with heap := h' } := I1.kept (t' := s1.toks) hk
    refine ⟨s1.heap.objs.size + 1, [s1.heap.objs.size + 1, s1.heap.objs.size], _, _, H1, rfl, I2, turn_enumT a (s1.heap.objs.size + 1) s1.heap.objs.size (Nat.ne_of_lt hal) (Nat.ne_of_lt (Nat.lt_succ_of_lt hal)), ⟨⟨.none, he⟩, ⟨_, hit, rfl, rfl⟩, Nat.succ_ne_self _⟩, fun b hb => ?_, q⟩
    have e' : b = s1.heap.objs.size + 1 ∨ b = s1.heap.objs.size := by simpa using hb
    have hle : s1.heap.objs.size ≤ b := by
      rcases e' with z | z
      · rw [z]; exact Nat.le_add_right _ _
      · rw [z]; exact Nat.le_refl _
    exact I1.fpOk hle (I1.hok.fresh hle)
end L2

set_option Elab.async false
set_option linter.all false
set_option maxRecDepth 100000
set_option maxHeartbeats 4000000
/-! {k: v for target in iter if ..} with keys that are tuples of ints and texts -/
namespace L2
open PySem PySem.Spec PyProof.Rows
theorem putT {X : Cx} {pins : List (Addr × Obj)} {σ : St} {H : Hp} {s : Shared} {E : Value → Shared → Prop} {D b : Addr} {kvs : List (List Key × V)} {k : List Key} {v : V} {r : Value} {Q : Unit → Shared → Prop} (hu : X.A.units + 1 < cLine) (I : Inv X pins σ H s) (hD : H D = some (.dT kvs)) (hb : H b = some (.tup (k.map kV)))
    (hz : kvs.length < sizeLine) (rv : RelV v r) (h : ∀ s', Inv X pins σ (upd H D (.dT (putK kvs k v))) s' → Q () s') : wpAny (model X.prog X.w) X.A (dictSet D (.ref b) r) Q E s := by
  obtain ⟨z, hd, xs, rel, dd⟩ := dt_of I.hok hD
  have lx : xs.length ≤ sizeLine := by
    rw [← Paired.length rel]
    exact z
  have ln : (putK kvs k v).length ≤ sizeLine := by
    have := length_putK kvs k v
    omega
  refine wpAny_dictSet_heap (hsz := lx) (show (tupleKind (mixKind X.prog X.w)).room X.A from Nat.lt_of_succ_lt hu) (key_of I.hok hb) dd fun h' dd' hs => h _ ?_
  obtain ⟨q, es, ep, hq, h2, h3, h4, _, h5⟩ := dd'
  refine d_write I (by rw [hD]; exact True.intro) hs ⟨q, hq⟩ ⟨ln, hd, _, (rel.put k hb rv).keeps fun c ys ec => ?_, q, es, ep, hq, h2, h3, h4, h5⟩
  rw [upd_ne (ne_of ec hD (fun z => nomatch z))]
  exact ec
section
variable {X : Cx}
/-- D: the new dict -/
def tDcT (wi : TI) (g : TG) (tt : TT) (tk tv : TE) (vs : List Nat) : TE := fun σ H Q => wi σ H fun J H1 => ∀ D, H1 D = none → ∃ W : Nat → Nat → Hp → Prop, (∃ m, W 0 m (upd H1 D (.dT []))) ∧ ∀ i m H, W i m H →
  (J.stop i H ∧ Q (.ref D) H) ∨ (J.go i H ∧ ∃ Nx : Hp → Prop, (∀ H', Nx H' → ∃ m', m' < m ∧ W (i + 1) m' H') ∧ ∀ x H', J.yld i H x H' → g x (wipe σ vs) H' fun σ2 H2 => wipe σ2 vs = wipe σ vs ∧ tt σ2 H2 fun b H3 =>
    if b = true then tk σ2 H3 fun y H4 => tv σ2 H4 fun z H5 => ∃ (kvs : List (List Key × V)) (k : List Key) (b : Addr), y = .ref b ∧ H5 b = some (.tup (k.map kV)) ∧ H5 D = some (.dT kvs) ∧ kvs.length < sizeLine ∧ Nx (upd H5 D (.dT (putK kvs k z))) else Nx H3)
theorem dcT_core {pins : List (Addr × Obj)} {s : Shared} {σ : St} {H : Hp} {Q : VK} {kx vx tg iter : Expr} {ifs : List Expr} {scope : Scope} {own : List (Str × Nat)} {pos pos' : Pos} {wi : TI} {g : TG} {tt : TT} {tk tv : TE} {use : Option (Value → Sem Unit)} {Qf : Value → Shared → Prop}
    (hu : X.A.units + 1 < cLine) (hc : X.calm = true) (hN : X.N.Nodup) (I : Inv X pins σ H s) (hi : PI X tg iter wi) (ok : BlkOk X.N X.env.scope scope own)
    (hg : ∀ (s : Shared) (H : Hp) (C : Addr) (cl : List (Str × Addr)) (fp : List Addr), PG (X.blk s H scope (compEnvC scope cl C X.env) fp) tg g) (ht : ∀ (s : Shared) (H : Hp) (C : Addr) (cl : List (Str × Addr)) (fp : List Addr), PTs (X.blk s H scope (compEnvC scope cl C X.env) fp) ifs tt)
    (hk : ∀ (s : Shared) (H : Hp) (C : Addr) (cl : List (Str × Addr)) (fp : List Addr), PE (X.blk s H scope (compEnvC scope cl C X.env) fp) kx tk)
    (he : ∀ (s : Shared) (H : Hp) (C : Addr) (cl : List (Str × Addr)) (fp : List Addr), PE (X.blk s H scope (compEnvC scope cl C X.env) fp) vx tv) (hs : ∀ x, foldedSetIterable iter X.env x = pure x)
    (h : tDcT wi g tt tk tv (own.map (·.2)) σ H Q)
    (last : ∀ D C s' m H', Inv X pins σ H' s' → Q (.ref D) H' → s'.heap.Ns C m → FpOk X pins H' C → compPost (model X.prog X.w) X.A X.xe use Qf (.ref D) C (.ok .next) s') :
    wpAny (model X.prog X.w) X.A (comprehension (.DictComp kx vx [⟨tg, iter, ifs, 0⟩] scope pos) scope X.env pos' newDict false (eval iter X.env) use) Qf X.xe s := by
  have hfree : ∀ y ∈ scope.names, y.2 = .free → ∃ c, X.env.cells.lookup y.1 = some c := by
    intro y hy e
    rcases ok.free y hy e with k | k
    · exact I.ok.has _ (.inl k)
    · exact I.ok.has _ (.inr k)
  refine wpAny_comprehension_free (use := use) rfl hs (closure_ok hfree) ok.kind (fun y hy e => by rw [ok.uniq y hy, e]) (thn (hi.run pins s σ H _ I h) ?_)
  intro xv s1 hx
  refine thn hx ?_
  rintro itv s2 ⟨it, fp, tn, J, H2, rfl, I2, T, st2, f2, q⟩
  refine wpAny_newObj_type (newEnv_comp ?_)
  have hDn : H2 s2.heap.objs.size = none := I2.hok.fresh (Nat.le_refl _)
  obtain ⟨W, ⟨m0, w0⟩, turn⟩ := q _ hDn
  -- the new dict
  have I3 : Inv X pins σ (upd H2 s2.heap.objs.size (.dT [])) { s2 with heap := s2.heap.push { cls := .type "dict", data := .dict #[] } } :=
    I2.laid (t' := s2.toks) (fun b o e => Heap.get?_push_of_some _ e) (Nat.le_refl _) (dt_empty s2.heap I2.big)
  have sz : ∀ b ∈ fp, b < s2.heap.objs.size := fun b hb => Heap.lt_size (T.obj _ _ st2 b hb).choose_spec.1
  have f3 : ∀ b ∈ fp, FpOk X pins (upd H2 s2.heap.objs.size (.dT [])) b ∧ b < (s2.heap.push { cls := .type "dict", data := .dict #[] }).objs.size := fun b hb => by
    refine ⟨⟨?_, (f2 b hb).2⟩, by rw [Heap.size_push]; exact Nat.lt_succ_of_lt (sz b hb)⟩
    rw [upd_ne (Nat.ne_of_lt (sz b hb))]
    exact (f2 b hb).1
  have st3 : tn 0 (s2.heap.push { cls := .type "dict", data := .dict #[] }) := T.keep _ _ _ st2 fun b _ o e => Heap.get?_push_of_some _ e
  revert I3 f3 st3 w0 turn
  generalize s2.heap.objs.size = D
  generalize upd H2 D (.dT []) = H3
  generalize e3 : ({ s2 with heap := s2.heap.push { cls := .type "dict", data := .dict #[] } } : Shared) = s3
  have h3 : s2.heap.push { cls := .type "dict", data := .dict #[] } = s3.heap := by rw [← e3]
  rw [h3]
  intro turn w0 I3 f3 st3
  have I4 := block_start I3 ok hN f3
  have pg := hg s3 H3 s3.heap.objs.size (cellsFrom (s3.heap.objs.size + 1) scope.names (cloFrom X.env.cells scope.names [])) fp
  have pt := ht s3 H3 s3.heap.objs.size (cellsFrom (s3.heap.objs.size + 1) scope.names (cloFrom X.env.cells scope.names [])) fp
  have pk := hk s3 H3 s3.heap.objs.size (cellsFrom (s3.heap.objs.size + 1) scope.names (cloFrom X.env.cells scope.names [])) fp
  have pe := he s3 H3 s3.heap.objs.size (cellsFrom (s3.heap.objs.size + 1) scope.names (cloFrom X.env.cells scope.names [])) fp
  refine (show codeAny _ _ (.compStart (.DictComp kx vx [⟨tg, iter, ifs, 0⟩] scope pos) 0 (.ref it) (.ref D) (compEnvC scope (cellsFrom (s3.heap.objs.size + 1) scope.names (cloFrom X.env.cells scope.names [])) s3.heap.objs.size X.env)) (compPost (model X.prog X.w) X.A X.xe use Qf (.ref D) s3.heap.objs.size) { s3 with heap := pushCells (s3.heap.push { cls := .type "dict", data := .dict #[] }) scope.names } from ?_)
  have cL : (compEnvC scope (cellsFrom (s3.heap.objs.size + 1) scope.names (cloFrom X.env.cells scope.names [])) s3.heap.objs.size X.env).locals = s3.heap.objs.size := rfl
  revert I4 pg pt pk pe cL
  generalize compEnvC scope (cellsFrom (s3.heap.objs.size + 1) scope.names (cloFrom X.env.cells scope.names [])) s3.heap.objs.size X.env = ce
  intro I4 pg pt pk pe cL
  generalize hs4 : ({ s3 with heap := pushCells (s3.heap.push { cls := .type "dict", data := .dict #[] }) scope.names } : Shared) = s4 at I4 ⊢
  have st4 : tn 0 s4.heap := T.keep _ _ _ st3 fun b _ o e => by
    rw [← hs4]
    exact pushCells_keeps _ _ _ _ (Heap.get?_push_of_some _ e)
  have stat : ∀ {σ' : St} {H' : Hp} {s' : Shared}, Inv (X.blk s3 H3 scope ce fp) [] σ' H' s' → (∀ b ∈ fp, H' b = none) → ∀ b ∈ fp, FpOk (X.blk s3 H3 scope ce fp) [] H' b := fun {σ' H' s'} I' hn b hb =>
    ⟨hn b hb, (I'.ok.exf b hb).1, I'.ok.exfs b hb, .inl hb, fun x c e => (I'.ok.exf b hb).2 x c e, fun p hp => by cases hp⟩
  have loop : codeAny (model X.prog X.w) X.A (.compLoop (.DictComp kx vx [⟨tg, iter, ifs, 0⟩] scope pos) 0 (.ref it) (.ref D) ce) (compPost (model X.prog X.w) X.A X.xe use Qf (.ref D) s3.heap.objs.size) s4 := by
    refine compLoop_anyD (fun n s' => ∃ i H', Inv (X.blk s3 H3 scope ce fp) [] (wipe σ (own.map (·.2))) H' s' ∧ tn i s'.heap ∧ (∀ b ∈ fp, H' b = none) ∧ W i n H') ?_ m0 ⟨0, H3, I4, st4, fun b hb => (f3 b hb).1.1, w0⟩
    rintro n s5 ⟨i, H5, I5, st5, n5, w5⟩
    rcases turn i n H5 w5 with ⟨stop, qq⟩ | ⟨go, Nx, hNx, step⟩
    · refine thnF (T.done (X.blk s3 H3 scope ce fp) rfl rfl rfl hc i [] s5 _ H5 (fun _ _ => False) I5 (stat I5 n5) st5 stop) ?_
      rintro r s6 ⟨rfl, I6⟩
      have I7 : Inv X pins σ H5 s6 := I3.call' (ch := fp) I6.os I6.base I6.hok I6.bare fun b hb => ⟨(f3 b hb).1.2.2.2.1, (f3 b hb).1.2.1, (f3 b hb).1.2.2.2.2.1, (f3 b hb).1.2.2.2.2.2⟩
      have nC : H5 s3.heap.objs.size = none := by
        have z : H5 ce.locals = none := I6.free
        rw [cL] at z
        exact z
      obtain ⟨m, hn, _⟩ := I6.loc
      have hn : s6.heap.Ns ce.locals m := hn
      rw [cL] at hn
      exact last D s3.heap.objs.size s6 m H5 I7 qq hn (I3.fpOk (Nat.le_refl _) nC)
    · refine thnF (T.item (X.blk s3 H3 scope ce fp) rfl rfl rfl hc i [] s5 _ H5 (fun _ _ => False) I5 (stat I5 n5) st5 go) ?_
      rintro r s6 ⟨u, rfl, h6⟩
      refine thnF h6 ?_
      rintro _ s7 ⟨x, H7, I7, r7, y7, st7, n7⟩
      refine thnF (pg.run _ s7 _ H7 x u _ (I7.pinned (stat I7 n7) (T.obj _ _ st7)) r7 (step x H7 y7)) ?_
      rintro _ s8 ⟨σ8, H8, I8, hw8, q8⟩
      refine thnF (pt.run _ s8 σ8 H8 _ I8 q8) ?_
      rintro b s9 ⟨H9, I9, q9⟩
      have fin : ∀ {s' : Shared} {H' : Hp}, Inv (X.blk s3 H3 scope ce fp) ([] ++ pinsAt fp s7.heap) σ8 H' s' → Nx H' → ∃ m, m < n ∧ ∃ i H', Inv (X.blk s3 H3 scope ce fp) [] (wipe σ (own.map (·.2))) H' s' ∧ tn i s'.heap ∧ (∀ b ∈ fp, H' b = none) ∧ W i m H' := by
        intro s' H' I' nx
        obtain ⟨m', hm, w'⟩ := hNx H' nx
        have pin' : ∀ b ∈ fp, ∀ o, s7.heap.get? b = some o → s'.heap.get? b = some o ∧ H' b = none := fun b hb o e =>
          let z := I'.pin (b, o) (List.mem_append_right _ (List.mem_append_right _ (mem_pinsAt hb e)))
          ⟨z.1, z.2.1⟩
        have hl : (wipe σ (own.map (·.2))).length = σ8.length := by rw [← hw8, wipe_length]
        refine ⟨m', hm, i + 1, H', (I'.unpinned (pins := [])).weak hl (fun j v e => ?_), T.keep _ _ _ st7 fun b hb o e => (pin' b hb o e).1, fun b hb => ?_, w'⟩
        · rw [← hw8] at e
          exact (wipe_some e).1
        · obtain ⟨o, e, _⟩ := T.obj _ _ st7 b hb
          exact (pin' b hb o e).2
      cases b with
      | false =>
        simp only [Bool.false_eq_true, if_false] at q9 ⊢
        exact fin I9 q9
      | true =>
        simp only [if_true] at q9 ⊢
        refine thnF (pk.run _ s9 σ8 H9 _ I9 q9) ?_
        rintro z s10 ⟨yk, H10, I10, r10, q10⟩
        refine thnF (pe.run _ s10 σ8 H10 _ I10 q10) ?_
        rintro z2 s11 ⟨yv, H11, I11, r11, kvs, k, bk, ek, hbk, hD11, hz11, nx⟩
        subst ek
        cases (show z = Value.ref bk from r10)
        exact putT (X := X.blk s3 H3 scope ce fp) hu I11 hD11 hbk hz11 r11 fun s12 I12 => fin I12 nx
  exact codeAny_compStart_dict loop (T.self X.A 0 _ _ _ st4 loop)
theorem pe_dcT {kx vx tg iter : Expr} {ifs : List Expr} {scope : Scope} {own : List (Str × Nat)} {pos : Pos} {wi : TI} {g : TG} {tt : TT} {tk tv : TE} (hu : X.A.units + 1 < cLine) (hc : X.calm = true) (hN : X.N.Nodup) (hi : PI X tg iter wi) (ok : BlkOk X.N X.env.scope scope own)
    (hg : ∀ (s : Shared) (H : Hp) (C : Addr) (cl : List (Str × Addr)) (fp : List Addr), PG (X.blk s H scope (compEnvC scope cl C X.env) fp) tg g) (ht : ∀ (s : Shared) (H : Hp) (C : Addr) (cl : List (Str × Addr)) (fp : List Addr), PTs (X.blk s H scope (compEnvC scope cl C X.env) fp) ifs tt)
    (hk : ∀ (s : Shared) (H : Hp) (C : Addr) (cl : List (Str × Addr)) (fp : List Addr), PE (X.blk s H scope (compEnvC scope cl C X.env) fp) kx tk)
    (he : ∀ (s : Shared) (H : Hp) (C : Addr) (cl : List (Str × Addr)) (fp : List Addr), PE (X.blk s H scope (compEnvC scope cl C X.env) fp) vx tv) (hs : ∀ x, foldedSetIterable iter X.env x = pure x := by intro _; rfl) :
    PE X (.DictComp kx vx [⟨tg, iter, ifs, 0⟩] scope pos) (tDcT wi g tt tk tv (own.map (·.2))) := by
  refine ⟨fun pins s σ H Q I h => ?_⟩
  rw [arm_eval_DictComp]
  refine dcT_core hu hc hN I hi ok hg ht hk he hs h ?_
  intro D C s' m H' I' q hn f
  refine ⟨m, hn, fun h'' sb => ?_⟩
  obtain ⟨f0, f1, f2, f3, f4, f5⟩ := f
  exact ⟨.ref D, H', I'.turned (t' := s'.toks) (fun b o hb e => (sb.2 b hb).trans e) f0 f1 f3 f4 f5, rfl, q⟩
theorem ps_setDcT {i : Nat} {y : Str} {py : Pos} {kx vx tg iter : Expr} {ifs : List Expr} {scope : Scope} {own : List (Str × Nat)} {pos spos : Pos} {wi : TI} {g : TG} {tt : TT} {tk tv : TE} (hu : X.A.units + 1 < cLine) (hc : X.calm = true) (hN : X.N.Nodup) (hy : X.N[i]? = some y) (hyl : X.env.scope.names.lookup y = some .local)
    (hsw : swapsWith (.DictComp kx vx [⟨tg, iter, ifs, 0⟩] scope pos) (some (.Name y py)) spos.line X.env = pure true) (hi : PI X tg iter wi) (ok : BlkOk X.N X.env.scope scope own)
    (hg : ∀ (s : Shared) (H : Hp) (C : Addr) (cl : List (Str × Addr)) (fp : List Addr), PG (X.blk s H scope (compEnvC scope cl C X.env) fp) tg g) (ht : ∀ (s : Shared) (H : Hp) (C : Addr) (cl : List (Str × Addr)) (fp : List Addr), PTs (X.blk s H scope (compEnvC scope cl C X.env) fp) ifs tt)
    (hk : ∀ (s : Shared) (H : Hp) (C : Addr) (cl : List (Str × Addr)) (fp : List Addr), PE (X.blk s H scope (compEnvC scope cl C X.env) fp) kx tk)
    (he : ∀ (s : Shared) (H : Hp) (C : Addr) (cl : List (Str × Addr)) (fp : List Addr), PE (X.blk s H scope (compEnvC scope cl C X.env) fp) vx tv) (hs : ∀ x, foldedSetIterable iter X.env x = pure x := by intro _; rfl) :
    PS X (.Assign [.Name y py] (.DictComp kx vx [⟨tg, iter, ifs, 0⟩] scope pos) spos) (tAsg (tDcT wi g tt tk tv (own.map (·.2))) (gName i)) := by
  refine ⟨fun pins s σ H D I h => ?_⟩
  rw [exec_Assign_Name_used _ _ _ _ hsw]
  refine wpAny_bind (wpAny_standAt (wpAny_bind ?_))
  have h : tDcT wi g tt tk tv (own.map (·.2)) σ H (fun x H1 => gName i x σ H1 D.nx) := h
  show wpAny _ X.A (do let _ ← comprehension (.DictComp kx vx [⟨tg, iter, ifs, 0⟩] scope pos) scope X.env (firstIterPos [⟨tg, iter, ifs, 0⟩] pos) newDict false (eval iter X.env) (some (assign (.Name y py) X.env))) _ _ s
  refine wpAny_bind (thn (dcT_core (Qf := fun _ s' => SP X pins D .next s') hu hc hN I hi ok hg ht hk he hs h ?_) fun _ s' hq => wpAny_pure (wpAny_pure hq))
  intro L C s' m H' I' q hn f
  obtain ⟨f0, f1, f2, f3, f4, f5⟩ := f
  refine wpAny_assign_Name (store_ok2 (v := V.ref L) I' hN hy (.inl hyl) rfl (fun s2 I2 hw => ?_) (.inr hyl))
  obtain ⟨a, sb, ha⟩ := hw
  have hne : C ≠ a := by
    intro e
    rcases ha with z | z
    · exact f1 (e.trans z)
    · exact f4 y a z e.symm
  exact ⟨m, hn.sameBut sb hne, fun h3 sb3 => ⟨_, H', I2.turned (t' := s2.toks) (fun b o hb e => (sb3.2 b hb).trans e) f0 f1 f3 f4 f5, q⟩⟩
theorem ps_setDc {i : Nat} {y : Str} {py : Pos} {kx vx tg iter : Expr} {ifs : List Expr} {scope : Scope} {own : List (Str × Nat)} {pos spos : Pos} {wi : TI} {g : TG} {tt : TT} {tk tv : TE} (hc : X.calm = true) (hN : X.N.Nodup) (hy : X.N[i]? = some y) (hyl : X.env.scope.names.lookup y = some .local)
    (hsw : swapsWith (.DictComp kx vx [⟨tg, iter, ifs, 0⟩] scope pos) (some (.Name y py)) spos.line X.env = pure true) (hi : PI X tg iter wi) (ok : BlkOk X.N X.env.scope scope own)
    (hg : ∀ (s : Shared) (H : Hp) (C : Addr) (cl : List (Str × Addr)) (fp : List Addr), PG (X.blk s H scope (compEnvC scope cl C X.env) fp) tg g) (ht : ∀ (s : Shared) (H : Hp) (C : Addr) (cl : List (Str × Addr)) (fp : List Addr), PTs (X.blk s H scope (compEnvC scope cl C X.env) fp) ifs tt)
    (hk : ∀ (s : Shared) (H : Hp) (C : Addr) (cl : List (Str × Addr)) (fp : List Addr), PE (X.blk s H scope (compEnvC scope cl C X.env) fp) kx tk)
    (he : ∀ (s : Shared) (H : Hp) (C : Addr) (cl : List (Str × Addr)) (fp : List Addr), PE (X.blk s H scope (compEnvC scope cl C X.env) fp) vx tv) (hs : ∀ x, foldedSetIterable iter X.env x = pure x := by intro _; rfl) :
    PS X (.Assign [.Name y py] (.DictComp kx vx [⟨tg, iter, ifs, 0⟩] scope pos) spos) (tAsg (tDc wi g tt tk tv (own.map (·.2))) (gName i)) := by
  refine ⟨fun pins s σ H D I h => ?_⟩
  rw [exec_Assign_Name_used _ _ _ _ hsw]
  refine wpAny_bind (wpAny_standAt (wpAny_bind ?_))
  have h : tDc wi g tt tk tv (own.map (·.2)) σ H (fun x H1 => gName i x σ H1 D.nx) := h
  show wpAny _ X.A (do let _ ← comprehension (.DictComp kx vx [⟨tg, iter, ifs, 0⟩] scope pos) scope X.env (firstIterPos [⟨tg, iter, ifs, 0⟩] pos) newDict false (eval iter X.env) (some (assign (.Name y py) X.env))) _ _ s
  refine wpAny_bind (thn (dc_core (Qf := fun _ s' => SP X pins D .next s') hc hN I hi ok hg ht hk he hs h ?_) fun _ s' hq => wpAny_pure (wpAny_pure hq))
  intro L C s' m H' I' q hn f
  obtain ⟨f0, f1, f2, f3, f4, f5⟩ := f
  refine wpAny_assign_Name (store_ok2 (v := V.ref L) I' hN hy (.inl hyl) rfl (fun s2 I2 hw => ?_) (.inr hyl))
  obtain ⟨a, sb, ha⟩ := hw
  have hne : C ≠ a := by
    intro e
    rcases ha with z | z
    · exact f1 (e.trans z)
    · exact f4 y a z e.symm
  exact ⟨m, hn.sameBut sb hne, fun h3 sb3 => ⟨_, H', I2.turned (t' := s2.toks) (fun b o hb e => (sb3.2 b hb).trans e) f0 f1 f3 f4 f5, q⟩⟩
theorem sw_dict {kx vx : Expr} {gs : List Comprehension} {scope : Scope} {pos py : Pos} {y : Str} {l : Nat} {env : Env} (hk : env.scope.kind = .function) (hy : env.scope.names.lookup y = some .local) (hl : (py.line == pos.line) = true)
    (ha : (scope.names.any fun (n, k) => n == y && (k == .local || k == .cell)) = false) : swapsWith (.DictComp kx vx gs scope pos) (some (.Name y py)) l env = pure true := by
  have hb : env.blockKind = .function := by
    unfold Env.blockKind
    rw [hk]
    rfl
  have ky : env.kindOf y = some .local := hy
  unfold swapsWith
  simp only [hb, ky, ha, Expr.pos, hl]
  rfl
end
section
variable {J : It} {n : Nat} {G : Hp → Prop} {Y : Nat → Hp → V → Hp → Prop}
/-- such a comprehension over a walk: Pv by the turn and the heap -/
theorem dcT_it (w : Walk J n G Y) {g : TG} {tt : TT} {tk tv : TE} {vs : List Nat} {σ : St} {H1 : Hp} {D : Addr} {Qd : Hp → Prop} (Pv : Nat → Hp → Prop) (h0 : Pv 0 (upd H1 D (.dT []))) (hG : ∀ i H, i ≤ n → Pv i H → G H)
    (hs : ∀ i x H H', i < n → Pv i H → Y i H x H' → g x (wipe σ vs) H' fun σ2 H2 => wipe σ2 vs = wipe σ vs ∧ tt σ2 H2 fun b H3 =>
      if b = true then tk σ2 H3 fun y H4 => tv σ2 H4 fun z H5 => ∃ (kvs : List (List Key × V)) (k : List Key) (b : Addr), y = .ref b ∧ H5 b = some (.tup (k.map kV)) ∧ H5 D = some (.dT kvs) ∧ kvs.length < sizeLine ∧ Pv (i + 1) (upd H5 D (.dT (putK kvs k z))) else Pv (i + 1) H3) (hd : ∀ H, Pv n H → Qd H) :
    ∃ W : Nat → Nat → Hp → Prop, (∃ m, W 0 m (upd H1 D (.dT []))) ∧ ∀ i m H, W i m H →
      (J.stop i H ∧ Qd H) ∨ (J.go i H ∧ ∃ Nx : Hp → Prop, (∀ H', Nx H' → ∃ m', m' < m ∧ W (i + 1) m' H') ∧ ∀ x H', J.yld i H x H' → g x (wipe σ vs) H' fun σ2 H2 => wipe σ2 vs = wipe σ vs ∧ tt σ2 H2 fun b H3 =>
        if b = true then tk σ2 H3 fun y H4 => tv σ2 H4 fun z H5 => ∃ (kvs : List (List Key × V)) (k : List Key) (b : Addr), y = .ref b ∧ H5 b = some (.tup (k.map kV)) ∧ H5 D = some (.dT kvs) ∧ kvs.length < sizeLine ∧ Nx (upd H5 D (.dT (putK kvs k z))) else Nx H3) := by
  refine ⟨fun i m H => m = n - i ∧ i ≤ n ∧ Pv i H, ⟨n, by simp, Nat.zero_le _, h0⟩, ?_⟩
  rintro i m H ⟨rfl, hi, p⟩
  rcases Nat.lt_or_ge i n with hlt | hge
  · exact .inr ⟨w.goes i H hlt (hG i H hi p), Pv (i + 1), fun H' p' => ⟨n - (i + 1), by omega, rfl, hlt, p'⟩, fun x H' y => hs i x H H' hlt p (w.yields i H x H' hlt (hG i H hi p) y)⟩
  · have e : i = n := Nat.le_antisymm hi hge
    subst e
    exact .inl ⟨w.stops H (hG _ H hi p), hd H p⟩
end
end L2

set_option Elab.async false
set_option linter.all false
set_option maxRecDepth 100000
set_option maxHeartbeats 2000000
/-! short rules for what the texts of this program write, whatever the kinds of the values are -/
namespace Pu
open PySem PySem.Spec PyProof.Rows L2
/-! ### rules with several readings -/
section
variable {X : Cx}
theorem pe_gi {x : Str} {pos : Pos} {n : Int} (hg : Gl X x) (hm : ∃ t, X.mg x = some (.int n t)) (hd : (x == ("__debug__" : Str)) = false := by decide) : PE X (.Name x pos) (tC (.int n)) := by
  obtain ⟨t, h⟩ := hm
  exact pe_glob hg h ⟨_, rfl⟩ hd
theorem pe_gs {x : Str} {pos : Pos} {z : Str} (hg : Gl X x) (hm : ∃ t, X.mg x = some (.str z t)) (hd : (x == ("__debug__" : Str)) = false := by decide) : PE X (.Name x pos) (tC (.str z)) := by
  obtain ⟨t, h⟩ := hm
  exact pe_glob hg h ⟨_, rfl⟩ hd
/-- a + b: ints, or texts, or lists -/
theorem oAdd : OpR X (binaryOp .Add) (fun x y H Q => rI0 (fun i j => .int (i + j)) x y H Q ∨ ((∃ i j, x = .str i ∧ y = .str j ∧ i.length + j.length ≤ sizeLine ∧ Q (.str (i ++ j)) H) ∨ rCat x y H Q)) := op_add.or (op_add_str.or op_cat)
/-! the same with the written part by name: inside a comprehension the context is another, K is not -/
theorem oIn (K : PySem.W.Frag) (h : X.K = K := by rfl) : OpR X (compareOp .In) (fun x y H Q => (∃ (c : Nat) (z : Str), x = .str ⟨#[c]⟩ ∧ y = .str z ∧ Q (.bl (decide (c ∈ z.cps.toList))) H) ∨ rIn K false x y H Q) := by
  subst h
  exact op_in_sign.or op_in_seq
theorem oNotIn (K : PySem.W.Frag) (h : X.K = K := by rfl) : OpR X (compareOp .NotIn) (fun x y H Q => (∃ (c : Nat) (z : Str), x = .str ⟨#[c]⟩ ∧ y = .str z ∧ Q (.bl (!decide (c ∈ z.cps.toList))) H) ∨ rIn K true x y H Q) := by
  subst h
  exact op_notIn_sign.or op_notIn_seq
theorem ixL (K : PySem.W.Frag) (h : X.K = K := by rfl) : IxR X (rIxL K) := by
  subst h
  exact ix_list
theorem ixT (K : PySem.W.Frag) (h : X.K = K := by rfl) : IxR X (rIxT K) := by
  subst h
  exact ix_tup
theorem slL (K : PySem.W.Frag) (h : X.K = K := by rfl) : SlR X (rSlL K) := by
  subst h
  exact sl_list
theorem slT (K : PySem.W.Frag) (h : X.K = K := by rfl) : SlR X (rSlT K) := by
  subst h
  exact sl_tup
theorem isiK (K : PySem.W.Frag) (h : X.K = K := by rfl) : CallR X (.builtin "isinstance") (rIsi K) := by
  subst h
  exact call_isi
/-- len(x): a list, a tuple, or a text -/
theorem lenK (K : PySem.W.Frag) (h : X.K = K := by rfl) : CallR X (.builtin "len") (fun xs H Q => (∃ p ys, xs = [.ref p] ∧ (SqL K H p ys ∨ SqT K H p ys) ∧ Q (.int ys.length) H) ∨ ∃ z, xs = [.str z] ∧ z.length ≤ sizeLine ∧ Q (.int z.length) H) := by
  subst h
  exact call_len_seq.or call_len_str
end
/-! ### a def of the module, as its callers see it -/
structure Cal (P : Program) (w : World) (K : PySem.W.Frag) (mg : Str → Option Value) (base : Heap) (k : Nat) (x : Str) (sp : Sp) (dvs : List V) : Prop where
  ex : ∃ (f : Addr) (fd : FuncData) (ps : List Str) (ds : List Value), FnOk P w K mg base CX0 k f fd ps sp ∧ mg x = some (.ref f) ∧ PySem.W.keepIn K (.ref f) = true ∧ Binds K fd ps ds ∧ Vals dvs ds
theorem Cal.mk0 {P : Program} {w : World} {K : PySem.W.Frag} {mg : Str → Option Value} {base : Heap} {k : Nat} {x : Str} {sp : Sp} {f : Addr} {fd : FuncData} {ps : List Str} (F : FnOk P w K mg base CX0 k f fd ps sp) (hm : mg x = some (.ref f)) (kp : PySem.W.keepIn K (.ref f) = true) (b : Binds K fd ps []) : Cal P w K mg base k x sp [] :=
  ⟨f, fd, ps, [], F, hm, kp, b, .nil⟩
theorem pe_c {X : Cx} {k j : Nat} {x : Str} {sp : Sp} {dvs : List V} {e : Expr} {es : List Expr} {t : TA} {p pos : Pos} (c : Cal X.prog X.w X.K X.mg X.base k x sp dvs) (hr : Room j X.A) (hk : k ≤ j) (hg : Gl X x) (ha : PA X (e :: es) t)
    (hdb : (x == ("__debug__" : Str)) = false := by decide) (he : starEach (e :: es) X.env = (false, eval e X.env) :: starEach es X.env := by rfl) (hpl : (backTo pos (starEach es X.env)).any (·.1) = false := by rfl) :
    PE X (.Call (.Name x p) (e :: es) [] pos) (tCall sp dvs E0 t) := by
  obtain ⟨f, fd, ps, ds, F, hm, kp, b, d⟩ := c.ex
  exact pe_call F (hr.mono hk) hg hm kp b d pass0 ha hdb he hpl
/-! ### a statement, then the rest, with a word of ours between them -/
def tCut (t u : TS) : TS := fun D σ H => ∃ Mid : L2.St → Hp → Prop, t { D with nx := Mid } σ H ∧ ∀ σ' H', Mid σ' H' → u D σ' H'
theorem pss_cut {X : Cx} {st : Stmt} {rest : List Stmt} {t u : TS} (h1 : PS X st t) (h2 : PSs X rest u) : PSs X (st :: rest) (tCut t u) := by
  refine ⟨fun pins s σ H D I ⟨Mid, hm, hu⟩ => ?_⟩
  refine wpAny_execs_cons (thn (h1.run pins s σ H { D with nx := Mid } I hm) fun f s1 q => ?_)
  cases f with
  | next =>
    obtain ⟨σ', H', I', q⟩ := q
    exact h2.run pins s1 σ' H' D I' (hu σ' H' q)
  | ret v => exact q
  | brk => exact q
  | cont => exact q
theorem same_upd {H : Hp} {p : Addr} {o : HO} (h : H p = none) : Same H (upd H p o) := fun b x e => by
  rw [upd_ne (ne_of_none e h)]
  exact e
/-! ### heaps that only grow, but for one object -/
def Ext (b : Addr) (H H' : Hp) : Prop := ∀ a o, a ≠ b → H a = some o → H' a = some o
theorem Ext.refl {b : Addr} (H : Hp) : Ext b H H := fun _ _ _ h => h
theorem Ext.trans {b : Addr} {H H1 H2 : Hp} (e : Ext b H H1) (f : Ext b H1 H2) : Ext b H H2 := fun a o n h => f a o n (e a o n h)
theorem Ext.new {b p : Addr} {H : Hp} {o : HO} (h : H p = none) : Ext b H (upd H p o) := fun a o _ e => by
  rw [upd_ne (ne_of_none e h)]
  exact e
theorem Ext.at {b : Addr} {H : Hp} {o : HO} : Ext b H (upd H b o) := fun a u n e => by
  rw [upd_ne n]
  exact e
theorem Ext.mut {b p : Addr} {H H' : Hp} {o : HO} (e : Ext b H H') (h : H p = none) : Ext b H (upd H' p o) := fun a u n ha => by
  rw [upd_ne (ne_of_none ha h)]
  exact e a u n ha
/-! ### the three numbers that a law draws from -/
def Box (H : Hp) (b : Addr) (n : Int) : Prop := ∃ x y z : Int, H b = some (.lst [.int x, .int y, .int z]) ∧ 0 ≤ x ∧ 0 ≤ y ∧ y < 2147483648 ∧ 0 ≤ z ∧ z ≤ n
theorem Box.new {H : Hp} {b p : Addr} {n : Int} {o : HO} (h : Box H b n) (hp : H p = none) : Box (upd H p o) b n := by
  obtain ⟨x, y, z, e, r⟩ := h
  exact ⟨x, y, z, by rw [upd_ne (ne_of_none e hp)]; exact e, r⟩
theorem Box.upd {H : Hp} {b p : Addr} {n : Int} {o : HO} (h : Box H b n) (hp : b ≠ p) : Box (upd H p o) b n := by
  obtain ⟨x, y, z, e, r⟩ := h
  exact ⟨x, y, z, by rw [upd_ne hp]; exact e, r⟩
theorem Box.ne {H : Hp} {b p : Addr} {n : Int} (h : Box H b n) (hp : H p = none) : b ≠ p := by
  obtain ⟨x, y, z, e, r⟩ := h
  exact ne_of_none e hp
theorem Box.mono {H : Hp} {b : Addr} {n m : Int} (h : Box H b n) (hp : n ≤ m) : Box H b m := by
  obtain ⟨x, y, z, e, r1, r2, r3, r4, r5⟩ := h
  exact ⟨x, y, z, e, r1, r2, r3, r4, by omega⟩
theorem sz (n : Nat) (h : n ≤ 100000 := by first | decide | omega) : n ≤ sizeLine := Nat.le_trans h (by decide)
/-- draws a number below m -/
def spTake : Sp := fun vs H Q _ => ∃ (b : Addr) (m n : Int), vs = [.ref b, .int m] ∧ 0 < m ∧ m < 2 ^ 140 ∧ n ≤ 1000000 ∧ Box H b n ∧
  ∀ d H', 0 ≤ d → d < m → Box H' b (n + 1) → Ext b H H' → Q (.int d) H'
def spCell (K : PySem.W.Frag) : Sp := fun vs H Q _ => ∃ (a : Addr) (ns : List Int) (k : Nat), vs = [.ref a, .int k] ∧ SqL K H a (ns.map V.int) ∧ ∀ i, Q (.int i) H
def spBox : Sp := fun vs H Q _ => ∃ i : Int, vs = [.int i] ∧ ∀ p H', H p = none → Box H' p 0 → (∀ a, a ≠ p → H' a = H a) → Q (.ref p) H'
end Pu

set_option Elab.async false
set_option linter.all false
set_option maxRecDepth 100000
set_option maxHeartbeats 2000000
namespace Pu
open PySem PySem.Spec PyProof.Rows L2
/-! ### an item at a drawn place -/
theorem pickN {α : Type} {xs : List α} {i : Int} (h0 : 0 ≤ i) (h1 : i < xs.length) : ∃ v, atI xs i = some v ∧ v ∈ xs := by
  obtain ⟨k, rfl⟩ := Int.eq_ofNat_of_zero_le h0
  have hk : k < xs.length := by omega
  exact ⟨xs[k], atI_nat (List.getElem?_eq_getElem hk), List.getElem_mem hk⟩
/-! ### texts: lengths -/
theorem len_app (x y : Str) : (x ++ y).length = x.length + y.length := PySem.Str.length_append x y
theorem len_cut (z : Str) (lo hi : Option Int) : (cutS z lo hi).length ≤ z.length := by
  show (List.toArray _).size ≤ z.cps.size
  rw [List.size_toArray, List.length_take, List.length_drop, Array.length_toList]
  show min _ (z.cps.size - _) ≤ z.cps.size
  omega
theorem sum_app (xs ys : List Nat) : (xs ++ ys).sum = xs.sum + ys.sum := List.sum_append
theorem len_join0 : ∀ ys : List Str, (Txt.join ("" : Str) ys).length = (ys.map (·.length)).sum := by
  intro ys
  rw [show Txt.join ("" : Str) ys = PySem.Str.join ("" : Str) ys from PySem.StrLaws.glued_eq_join _ _]
  induction ys with
  | nil => rfl
  | cons x r ih =>
    cases r with
    | nil =>
      show x.length = x.length + 0
      rfl
    | cons y r =>
      show (x ++ ("" : Str) ++ PySem.Str.join ("" : Str) (y :: r)).length = _
      rw [len_app, len_app, ih]
      show x.length + 0 + _ = x.length + _
      rfl
theorem len_one (c : Nat) : (⟨#[c]⟩ : Str).length = 1 := rfl
/-- texts of one sign each -/
theorem sum_ones : ∀ ys : List Str, (∀ y ∈ ys, y.length = 1) → (ys.map (·.length)).sum = ys.length
  | [], _ => rfl
  | y :: r, h => by
    rw [List.map_cons, List.sum_cons, List.length_cons, h y (List.mem_cons_self ..), sum_ones r fun z hz => h z (List.mem_cons_of_mem _ hz)]
    omega
end Pu

set_option Elab.async false
set_option linter.all false
set_option maxRecDepth 100000
set_option maxHeartbeats 4000000
/-! what a def may know of the shows (repr) that are under way around it: none. A def that says repr keeps its promise there alone, and so do its callers. -/
namespace Pu
open PySem PySem.Spec PyProof.Rows L2
structure FnG (P : Program) (w : World) (K : PySem.W.Frag) (mg : Str → Option Value) (base : Heap) (CX : CXT) (k : Nat) (f : Addr) (fd : FuncData) (ps : List Str) (sp : Sp) : Prop where
  arity : ∀ args H Q E, sp args H Q E → args.length = ps.length
  go : ∀ (A : Around) (outer : List Env) (s : Shared) (H : Hp) (given : Args) (ws : List Value) (args : List V) (Q : VK) (E : XK), A.guards = some [] → Room k A → Env0 P w K mg base A outer s H → BindsTo s fd given (ps.zip ws) → Vals args ws → sp args H Q E →
    codeAny (model P w) A (.call (.ref f) given) (CR CX outer P w H s Q E) s
section
variable {P : Program} {w : World} {K : PySem.W.Frag} {mg : Str → Option Value} {base : Heap} {CX : CXT}
/-- a def of the text, its body walked where no show is under way -/
theorem fnG {x qual : Str} {st : Stmt} {f : Addr} {fd : FuncData} {N ps : List Str} {k : Nat} {sp : Sp} (F : Fun K x qual st f fd) (S : FnScope N ps (defScope st)) (ar : ∀ args H Q E, sp args H Q E → args.length = ps.length)
    (body : ∀ (cdv : Value) (A : Around) (outer : List Env) (s : Shared) (H : Hp) (args : List V) (Q : VK) (E : XK), A.guards = some [] → Room k (A.deeper (envOfC qual (defScope st) s.heap.objs.size f cdv)) → sp args H Q E →
      ∃ t, PSs (cxOf CX P w K mg base N qual (defScope st) f cdv A outer s H E).nox (defBody st) t ∧ t { nx := fun _ H' => Q .non H', rt := Q } (start N args) H) : FnG P w K mg base CX (k + 1) f fd ps sp := by
  obtain ⟨oc, od, kV, doc, pm, an, cdv, ct, osl, hfd, lk, hcd⟩ := F.ex
  subst hfd
  constructor
  · exact ar
  intro A outer s H given ws args Q E hG hr e0 hb rv hs
  have nargs := ar _ _ _ _ hs
  have inK : K.In s.heap := e0.mod.kin.keeps fun b o z => (e0.bs b o z).1
  have free : s.heap.NoLimit := e0.mod.nolimit.keeps fun b o z => (e0.bs b o z).1
  have kinds : ∀ y ∈ ps.zip ws, (defScope st).names.lookup y.1 = some .local ∨ ((defScope st).names.lookup y.1 = some .cell ∧ ((cellsFrom (s.heap.objs.size + 1) (defScope st).names []).lookup y.1).isSome = true) := by
    rintro ⟨n, v⟩ hy
    exact (S.par n (List.of_mem_zip hy).1).imp id fun q => ⟨q, PySem.W.cellsFrom_some _ _ _ (.inl q)⟩
  refine codeAny_call_function hr.depth (inK _ _ lk) rfl S.co S.gen rfl (PySem.W.codeRec_of inK hcd) (hb _ _ _ _ (wpAny_newFunctionEnv_cells S.kind kinds ?_))
  rintro env rfl s1 made
  refine ⟨free.keeps made.toInCall.keep, codeAny_func ?_⟩
  obtain ⟨t, walk, read⟩ := body cdv A outer s H args Q E hG (hr.deeper _) hs
  have I0 : Inv (cxOf CX P w K mg base N qual (defScope st) f cdv A outer s H E) [] (start N args) H s1 := inv_start S hr.hd e0 nargs rv made
  have over : ∀ (σ' : L2.St) (H' : Hp) (v : V) (u : Value) (s' : Shared), Inv (cxOf CX P w K mg base N qual (defScope st) f cdv A outer s H E) [] σ' H' s' → RelV v u → Q v H' → CE outer P w H s Q u s' := by
    intro σ' H' v u s' J r q
    exact ⟨v, H', J.os, J.bare, J.base, J.hok, r, q⟩
  refine wpAny_mono (walk.nox.run [] s1 (start N args) H _ I0 read) ?_ (fun _ _ z => z)
  rintro (_ | _ | _ | u) s' z
  · obtain ⟨σ', H', J, q⟩ := z
    exact over σ' H' .non Value.none s' J rfl q
  · exact (z.elim fun _ r => r.elim fun _ r => r.2.elim)
  · exact (z.elim fun _ r => r.elim fun _ r => r.2.elim)
  · obtain ⟨v, σ', H', J, r, q⟩ := z
    exact over σ' H' v u s' J r q
end
/-- such a def of the module, as its callers see it -/
structure CalG (P : Program) (w : World) (K : PySem.W.Frag) (mg : Str → Option Value) (base : Heap) (k : Nat) (x : Str) (sp : Sp) : Prop where
  ex : ∃ (f : Addr) (fd : FuncData) (ps : List Str), FnG P w K mg base CX0 k f fd ps sp ∧ mg x = some (.ref f) ∧ PySem.W.keepIn K (.ref f) = true ∧ Binds K fd ps []
theorem CalG.mk0 {P : Program} {w : World} {K : PySem.W.Frag} {mg : Str → Option Value} {base : Heap} {k : Nat} {x : Str} {sp : Sp} {f : Addr} {fd : FuncData} {ps : List Str} (F : FnG P w K mg base CX0 k f fd ps sp) (hm : mg x = some (.ref f)) (kp : PySem.W.keepIn K (.ref f) = true) (b : Binds K fd ps []) : CalG P w K mg base k x sp :=
  ⟨f, fd, ps, F, hm, kp, b⟩
theorem pe_cG {X : Cx} {k j : Nat} {x : Str} {sp : Sp} {e : Expr} {es : List Expr} {t : TA} {p pos : Pos} (c : CalG X.prog X.w X.K X.mg X.base k x sp) (hG : X.A.guards = some []) (hr : Room j X.A) (hk : k ≤ j) (hg : Gl X x) (ha : PA X (e :: es) t)
    (hdb : (x == ("__debug__" : Str)) = false := by decide) (he : starEach (e :: es) X.env = (false, eval e X.env) :: starEach es X.env := by rfl) (hpl : (backTo pos (starEach es X.env)).any (·.1) = false := by rfl) :
    PE X (.Call (.Name x p) (e :: es) [] pos) (tCall sp [] E0 t) := by
  obtain ⟨f, fd, ps, F, hm, kp, bd⟩ := c.ex
  constructor
  intro pins s σ H Q I read
  refine wpAny_Call_Name_kw (ld_glob I hg hm (PySem.W.callWith_K (h₀ := X.base) I.ok.mod.kin kp (thn (ha.run pos pins s σ H _ I read) ?_) he hpl) hdb)
  rintro us s1 ⟨vs, H1, I1, rv, q⟩
  refine ⟨I1.kIn, wpAny_call ?_⟩
  have q' : sp vs H1 Q E0 := by
    have := q
    rw [List.append_nil] at this
    exact this
  have hl : us.length = ps.length := by
    rw [← rv.length]
    exact F.arity _ _ _ _ q'
  have hb := bd s1 us I1.kIn (by rw [List.append_nil]; exact hl)
  rw [List.append_nil] at hb
  refine codeAny_mono (F.go X.A X.stack s1 H1 ⟨us, []⟩ us vs Q E0 hG (hr.mono hk) I1.env0 hb rv q') ?_
  rintro (e | (_ | _ | _ | u)) s2 z
  · exact (pass0 pins σ H1 s1 e s2 I1 z)
  · exact (show False from z).elim
  · exact (show False from z).elim
  · exact (show False from z).elim
  · exact I1.after z
end Pu

set_option Elab.async false
set_option linter.all false
set_option maxRecDepth 100000
set_option maxHeartbeats 4000000
/-! the end of a law whose def says repr; repr itself, of plain data of any depth -/
namespace Pu
open PySem PySem.Spec PyProof.Rows L2
section
variable {P : Program} {w : World} {K : PySem.W.Frag} {mg mb : Str → Option Value}
/-- the heap that is told of at the law's start: the script alone, if it is no object of the text's own -/
theorem start_env {s₁ : Shared} {a : Addr} {vs : List Value} {ns : List Int} (KX : K.In s₁.heap) (hm : s₁.heap.Ns mainGlobals mg) (hb : s₁.heap.Ns builtinsNs mb) (hbb : ∀ x : Str, x ≠ "__name__" → mb x = bootBuiltins x) (hl : s₁.heap.NoLimit) (hg : s₁.gens = #[])
    (ha : s₁.heap.get? a = some { cls := .type "list", data := .seq vs.toArray }) (hi : IntsAre vs ns) (hz : ns.length ≤ sizeLine) :
    ∃ H : Hp, SqL K H a (ns.map V.int) ∧ K.In (hidT s₁.heap H) ∧ (hidT s₁.heap H).Ns mainGlobals mg ∧ Env0 P w K mg (hidT s₁.heap H) callerA [] s₁ H ∧
      ∀ (H' : Hp) (s' : Shared), Un (frs []) [] H H' s₁.heap s'.heap → HOk P w H' s'.heap → OldK s₁.heap s'.heap := by
  have rv := vals_ints hi
  have key : ∃ H : Hp, SqL K H a (ns.map V.int) ∧ (∀ b u, H b = some u → b = a ∧ K.lookup a = none ∧ u = .frz { cls := .type "list", data := .seq vs.toArray } (.lst (ns.map V.int))) := by
    cases hk : K.lookup a with
    | none =>
      refine ⟨fun b => if b = a then some (.frz { cls := .type "list", data := .seq vs.toArray } (.lst (ns.map V.int))) else none, .inl (.inr ⟨_, if_pos rfl⟩), fun b u z => ?_⟩
      have z : (if b = a then some (HO.frz { cls := .type "list", data := .seq vs.toArray } (.lst (ns.map V.int))) else none) = some u := z
      by_cases hb : b = a
      · rw [if_pos hb] at z
        exact ⟨hb, rfl, (Option.some.inj z).symm⟩
      · rw [if_neg hb] at z
        cases z
    | some o =>
      have e := ha.symm.trans (KX a o hk)
      cases e
      exact ⟨fun _ => none, .inr ⟨_, vs.toArray, _, hk, rfl, rfl, rfl, by rw [List.size_toArray, hi.length]; exact hz, rv⟩, fun b u z => by cases z⟩
  obtain ⟨H, hS, only⟩ := key
  have get : ∀ {b : Addr} {o : Obj}, s₁.heap.get? b = some o → (∀ u, H b = some u → False) → (hidT s₁.heap H).get? b = some o := fun {b o} e n => hidT_get e (by
    cases q : H b with
    | none => rfl
    | some u => exact (n u q).elim)
  have noDict : ∀ {b : Addr} {o : Obj} {es : Array DictEntry} {ep : Nat}, s₁.heap.get? b = some o → o.data = .dict es ep → ∀ u, H b = some u → False := fun {b o es ep} e d u z => by
    obtain ⟨rfl, _, _⟩ := only b u z
    rw [ha] at e
    cases e
    cases d
  have ns : ∀ {b : Addr} {m : Str → Option Value}, s₁.heap.Ns b m → (hidT s₁.heap H).Ns b m := fun ⟨o, es, ep, e, d, r⟩ => ⟨o, es, ep, get e (noDict e d), d, r⟩
  have inK : K.In (hidT s₁.heap H) := fun b o e => get (KX b o e) fun u z => by
    obtain ⟨rfl, n, _⟩ := only b u z
    rw [n] at e
    cases e
  have ok : HOk P w H s₁.heap := fun b u z => by
    obtain ⟨rfl, _, rfl⟩ := only b u z
    exact ⟨ha, by rw [List.length_map]; exact hz, vs, _, rv, ha⟩
  refine ⟨H, hS, inK, ns hm, ⟨rfl, ⟨inK, ns hm, ⟨mb, ns hb, hbb⟩, ?_⟩, fun b o e => of_hidT e, Nat.le_of_eq (hidT_size _ _), trivial, ?_, ok, .of_eq hg⟩, ?_⟩
  · obtain ⟨mc, h1, h2⟩ := hl
    exact ⟨mc, ns h1, h2⟩
  · intro b z
    exact absurd (show b ∈ ([] : List Addr) from z) List.not_mem_nil
  · intro H' s' un ok'
    refine OldK.of_keep fun b o e => ?_
    cases q : H b with
    | none => exact un.keep b o e q (fun z => absurd (show b ∈ ([] : List Addr) from z) List.not_mem_nil) List.not_mem_nil
    | some u =>
      obtain ⟨rfl, _, rfl⟩ := only b u q
      have z := (ok' b _ (un.frzs b _ _ q)).1
      have e0 := (ok b _ q).1
      rw [e] at e0
      cases e0
      exact z
/-- the goal that k_head leaves, from the promise of a law that says repr -/
theorem walk_G {l : PySem.W.OpenLaw} {n k : Nat} {q : Program} {loose : List Str} {XP : (Str → Option Value) → Heap → Prop} {YP : World → Heap → Prop} {d : DefRec} {K : Params → PySem.W.Frag} {sp : World → Sp} {x : Str}
    (hn : l.most = some n) (hn2 : n ≤ sizeLine) (hdf : d.params.defaults = []) (hr : Room k callerA) (hY : ∀ (w : World) (h : Heap), YP w h → (K w.params).In h)
    (F : ∀ (w : World) (mg : Str → Option Value) (fa : Addr) (h : Heap), (K w.params).In h → h.Ns mainGlobals mg → mg d.name = some (.ref fa) →
      ∃ fd : FuncData, (∀ (s : Shared) (u : Value), BindsTo s fd ⟨[u], []⟩ [(x, u)]) ∧ ∀ base : Heap, (K w.params).In base → base.Ns mainGlobals mg → FnG l.prog w (K w.params) mg base CX0 k fa fd [x] (sp w))
    (hsp : ∀ (w : World) (H : Hp) (a : Addr) (ns : List Int), ns.length ≤ n → SqL (K w.params) H a (ns.map V.int) → sp w [.ref a] H (fun v _ => v = .bl true) fun _ _ _ => False) :
    PySem.W.WalkO q loose XP YP l.row.toRowW d [] (fun f vs => PySem.call f vs) := by
  refine Att.attach_call hn hdf ?_
  intro w s₀ s₁ mg mb fa o pm cd doc a vs ns G Y ho hd hcd hmg hobj hints hlen hg
  have KX := hY w _ Y
  obtain ⟨fd, hb, hF⟩ := F w mg fa _ KX G.T.g hmg
  obtain ⟨H, hS, hK, hN, e0, old⟩ := start_env (P := l.prog) (w := w) KX G.T.g G.T.b G.T.builtins G.T.nolimit hg hobj hints (Nat.le_trans hlen hn2)
  refine codeAny_mono ((hF _ hK hN).go callerA [] s₁ H ⟨[.ref a], []⟩ [.ref a] [.ref a] _ _ rfl hr e0 (hb s₁ (.ref a)) (.cons rfl .nil) (hsp w H a ns hlen hS)) ?_
  rintro (e | (_ | _ | _ | u)) s' z
  · exact (show False from z).elim
  · exact (show False from z).elim
  · exact (show False from z).elim
  · exact (show False from z).elim
  · obtain ⟨v, H', os, bare, un, ok', r, rfl⟩ := z
    cases (show u = Value.bool true from r)
    exact ⟨rfl, old H' s' un ok', os, bare⟩
end
/-! ### repr -/
mutual
theorem Dp.noDict {K : PySem.W.Frag} {H : Hp} : ∀ {d : PyData} {v : V}, Dp K H v d → d.hasDict = false
  | .none, _, _ => by simp only [PyData.hasDict]
  | .bool _, _, _ => by simp only [PyData.hasDict]
  | .int _, _, _ => by simp only [PyData.hasDict]
  | .str _, _, _ => by simp only [PyData.hasDict]
  | .list _, _, h => by
    cases h with
    | lst _ ha =>
      simp only [PyData.hasDict]
      exact DpAll.noDict ha
  | .tuple _, _, h => by
    cases h with
    | tup _ ha =>
      simp only [PyData.hasDict]
      exact DpAll.noDict ha
  | .dict _, _, h => by cases h
theorem DpAll.noDict {K : PySem.W.Frag} {H : Hp} : ∀ {ds : List PyData} {vs : List V}, DpAll K H vs ds → PyData.hasDictAll ds = false
  | [], _, _ => by simp only [PyData.hasDictAll]
  | _ :: _, _, h => by
    cases h with
    | cons h1 h2 =>
      simp only [PyData.hasDictAll, Dp.noDict h1, DpAll.noDict h2, Bool.or_self]
end
def rRepr (K : PySem.W.Frag) : List V → Hp → VK → Prop := fun xs H Q => ∃ x d, xs = [x] ∧ Dp K H x d ∧ d.showable = true ∧ d.depth ≤ 40 ∧ d.shown.length ≤ sizeLine ∧ Q (.str d.shown) H
theorem reprG {X : Cx} (K : PySem.W.Frag) (hG : X.A.guards = some []) (hu : X.A.units + 64 < cLine) (hK : X.K = K := by rfl) : CallR X (.builtin "repr") (rRepr K) := by
  subst hK
  intro pins s σ H xs us Q I r h
  obtain ⟨x, d, rfl, hd, hs, hdp, hz, q⟩ := h
  obtain ⟨u, rfl, ru⟩ := vals1 r
  obtain ⟨as, rd⟩ := Dp.reads I d x u hd ru
  have nd := Dp.noDict hd
  have grown : ∀ (h' : Heap) (u' tk : Tok), (∀ b o, s.heap.get? b = some o → h'.get? b = some o) → EP X pins σ Q (.str d.shown u') { s with heap := h', toks := tk } := fun h' u' tk k =>
    ⟨.str d.shown, H, I.turnedL (ch := []) (fun b o _ e => k b o e) (fun _ hb => absurd hb List.not_mem_nil), ⟨u', rfl⟩, q⟩
  have same : ∀ (u' : Tok) (tk : Nat), EP X pins σ Q (.str d.shown u') { s with toks := tk } := fun u' tk => ⟨.str d.shown, H, I.tok _, ⟨u', rfl⟩, q⟩
  cases rd with
  | none => exact PySem.P.repr_of_none (same _ _)
  | bool b => exact PySem.P.repr_of_bool (same _ _)
  | int i t =>
    have hs' : decide (i.natAbs.log2 < 1920) = true := hs
    exact PySem.P.repr_of_int (of_decide_eq_true hs') (same _ _)
  | str z t => exact PySem.P.repr_of_str (same _ _) hz
  | list a1 a2 a3 a4 => exact repr_of_reads' (.list a1 a2 a3 a4) hs (PyData.noDict_hsm nd) hG (by omega) (fun _ _ e => e) grown hz
  | tuple a1 a2 a3 a4 => exact repr_of_reads' (.tuple a1 a2 a3 a4) hs (PyData.noDict_hsm nd) hG (by omega) (fun _ _ e => e) grown hz
  | dict _ _ _ _ _ => cases hd
end Pu

set_option Elab.async false
set_option linter.all false
set_option maxRecDepth 100000
set_option maxHeartbeats 4000000
/-! calls that name their arguments; how long a show is; != of lists -/
namespace Pu
open PySem PySem.Spec PyProof.Rows L2
structure CalN (P : Program) (w : World) (K : PySem.W.Frag) (mg : Str → Option Value) (base : Heap) (k : Nat) (x : Str) (n : Nat) (ks : List Str) (gV : List V → List V → List V) (sp : Sp) : Prop where
  ex : ∃ (f : Addr) (fd : FuncData) (ps : List Str) (g : List Value → List Value → List Value), FnOk P w K mg base CX0 k f fd ps sp ∧ mg x = some (.ref f) ∧ PySem.W.keepIn K (.ref f) = true ∧ KBn K fd ps n ks g gV
theorem pe_cN {X : Cx} {k j n : Nat} {x : Str} {ks : List Str} {gV : List V → List V → List V} {sp : Sp} {e : Expr} {es : List Expr} {kws : List Keyword} {t tk : TA} {p pos : Pos} (c : CalN X.prog X.w X.K X.mg X.base k x n ks gV sp) (hr : Room j X.A) (hk : k ≤ j) (hg : Gl X x) (ha : PA X (e :: es) t) (hw : PK X kws tk)
    (hall : (backToKw pos (keywordEach kws X.env)).all (·.1.isSome) = true := by rfl) (hks : (backToKw pos (keywordEach kws X.env)).filterMap (·.1) = ks := by rfl)
    (hdb : (x == ("__debug__" : Str)) = false := by decide) (he : starEach (e :: es) X.env = (false, eval e X.env) :: starEach es X.env := by rfl)
    (hpl : ((backTo pos (starEach (e :: es) X.env)).any (·.1) || (backToKw pos (keywordEach kws X.env)).any (·.1.isNone)) = false := by rfl) : PE X (.Call (.Name x p) (e :: es) kws pos) (tCallN n ks.length sp gV E0 t tk) := by
  obtain ⟨f, fd, ps, g, F, hm, kp, kb⟩ := c.ex
  exact pe_callN F (hr.mono hk) hg hm kp kb pass0 ha hw hall hks hdb he hpl
/-- keyword-only parameters alone have defaults; n values are written, the keywords ks too, those of ms lack -/
theorem kb0 {K : PySem.W.Frag} {x qual : Str} {params : Arguments} {body : List Stmt} {scope : Scope} {kws : List (Str × V)} {f : Addr} {fd : FuncData} {ps : List Str} (F : FunD K x qual params body scope [] kws f fd) (n : Nat) (ks : List Str) (ms : List (Str × V)) (g : {α : Type} → List α → List α → List α → List α) (hk : kws ≠ []) (hms : ∀ q ∈ ms, q ∈ kws)
    (hrel : ∀ {vs mz zs : List V} {us mv ws : List Value}, Vals vs us → Vals mz mv → Vals zs ws → Vals (g vs mz zs) (g us mv ws))
    (h : ∀ (D : Addr) (doc pm : Value) (an : Option Addr) (cdv ct : Value) (us mv ws : List Value), us.length = n → mv.length = ms.length → ws.length = ks.length →
      KwChain D ((ms.map (·.1)).zip mv) (bindArgs (PySem.W.fnOf x qual params body scope .none (.ref D) doc pm an cdv ct) ⟨us, ks.zip ws⟩) (ps.zip (g us mv ws))) :
    ∃ mv : List Value, KBn K fd ps n ks (fun us ws => g us mv ws) (fun vs zs => g vs (ms.map (·.2)) zs) := by
  obtain ⟨oc, od, dV, kV, doc, pm, an, cdv, ct, osl, hfd, lk, hcd, hD, hK⟩ := F.ex
  subst hfd
  rcases hD with ⟨_, rfl⟩ | ⟨z, _⟩
  · rcases hK with z | ⟨D, rfl, hq⟩
    · exact absurd z hk
    · obtain ⟨mv, hl, rk, hin⟩ := kwd_vals (ms := ms) fun q hm => hq q (hms q hm)
      exact ⟨mv, fun s us ws X l1 l2 => BindsTo.of_looks fun M => KwChain.looks X hin (h D doc pm an cdv ct us mv ws l1 hl l2), fun r1 r2 => hrel r1 rk r2⟩
  · exact absurd rfl z
/-! ### how long a show is -/
theorem textFrom0 (ts : List Str) (acc : Str) : (textFrom 0 acc ts).length ≤ acc.length + piled ts := by
  cases ts with
  | nil =>
    show acc.length ≤ _
    omega
  | cons t r =>
    have h := textFrom_length_pos r 1 (acc ++ t) (by decide)
    have e : textFrom 0 acc (t :: r) = textFrom 1 (acc ++ t) r := rfl
    rw [e, h, len_app, piled_cons]
    omega
theorem listText_le (ts : List Str) : (listText ts).length ≤ piled ts + 2 := by
  have h := textFrom0 ts "["
  have e : ("[" : Str).length = 1 := rfl
  have e2 : ("]" : Str).length = 1 := rfl
  show (textFrom 0 "[" ts ++ "]").length ≤ _
  rw [len_app, e2]
  omega
theorem int_len {i : Int} (h : i.natAbs < 10 ^ 40) : ((toString i : String) : Str).length ≤ 41 := by
  have e := int_text_length_le10 (k := 40) (by decide) h
  rw [PySem.ofString_length]
  omega
theorem log_small {i : Int} (h : i.natAbs < 10 ^ 40) : i.natAbs.log2 < 1920 := by
  by_cases h0 : i.natAbs = 0
  · rw [h0]
    decide
  · rw [Nat.log2_lt h0]
    exact Nat.lt_of_lt_of_le h (by decide +kernel)
/-! ### deep == and != with the written part by name -/
theorem eqDK {X : Cx} {k : Nat} (K : PySem.W.Frag) (hr : Room k X.A) (h : X.K = K := by rfl) : OpR X (compareOp .Eq) (rEqD K) := by
  subst h
  exact op_eqD hr.units
theorem neDK {X : Cx} {k : Nat} (K : PySem.W.Frag) (hr : Room k X.A) (h : X.K = K := by rfl) : OpR X (compareOp .NotEq) (rNeD K) := by
  subst h
  exact op_neD hr.units
/-! ### texts of small signs, lists of texts -/
def Asc (z : Str) : Prop := ∀ c ∈ z.cps.toList, c < 128
theorem asc_ok {z : Str} (h : Asc z) : PyData.canLay0 (.str z) = true := by
  simp only [PyData.canLay0]
  unfold PyData.strOk
  rw [Array.all_eq_true']
  intro c hc
  have := h c (Array.mem_toList_iff.mpr hc)
  simp
  omega
theorem asc_app {x y : Str} (hx : Asc x) (hy : Asc y) : Asc (x ++ y) := by
  intro c hc
  have e : (x ++ y).cps.toList = x.cps.toList ++ y.cps.toList := Array.toList_append
  rw [e] at hc
  rcases List.mem_append.mp hc with h | h
  · exact hx c h
  · exact hy c h
theorem asc_cut {z : Str} (h : Asc z) (lo hi : Option Int) : Asc (cutS z lo hi) := by
  intro c hc
  exact h c (List.mem_of_mem_drop (List.mem_of_mem_take hc))
theorem asc_one {c : Nat} (h : c < 128) : Asc ⟨#[c]⟩ := by
  intro d hd
  have : d = c := by simpa using hd
  omega
theorem asc_join {a : Str} (ha : Asc a) : ∀ {ys : List Str}, (∀ y ∈ ys, Asc y) → Asc (Txt.join a ys) := by
  intro ys
  rw [show Txt.join a ys = PySem.Str.join a ys from PySem.StrLaws.glued_eq_join _ _]
  induction ys with
  | nil =>
    intro _ c hc
    cases hc
  | cons x r ih =>
    intro h
    cases r with
    | nil => exact h x (List.mem_cons_self ..)
    | cons y r => exact asc_app (asc_app (h x (List.mem_cons_self ..)) ha) (ih fun z hz => h z (List.mem_cons_of_mem _ hz))
theorem len_join (a : Str) (ys : List Str) : (Txt.join a ys).length ≤ (ys.map (·.length)).sum + ys.length * a.length := by
  rw [show Txt.join a ys = PySem.Str.join a ys from PySem.StrLaws.glued_eq_join _ _]
  exact StrLaws.join_length_le a ys
theorem asc_nil : Asc ("" : Str) := fun c hc => by cases hc
theorem asc_dec (z : Str) (h : (z.cps.toList.all fun c => decide (c < 128)) = true) : Asc z := fun c hc => of_decide_eq_true (List.all_eq_true.mp h c hc)
theorem sum_le_of {ys : List Str} {m : Nat} (h : ∀ y ∈ ys, y.length ≤ m) : (ys.map (·.length)).sum ≤ m * ys.length := by
  induction ys with
  | nil => exact Nat.le_refl _
  | cons y r ih =>
    rw [List.map_cons, List.sum_cons, List.length_cons, Nat.mul_succ]
    have h1 := h y (List.mem_cons_self ..)
    have h2 := ih fun z hz => h z (List.mem_cons_of_mem _ hz)
    omega
/-! ### the show of a list of texts -/
theorem show_strs : ∀ ys : List Str, (∀ y ∈ ys, Asc y) → piled (PyData.shownAll (ys.map PyData.str)) ≤ 10 * (ys.map (·.length)).sum + 4 * ys.length
  | [], _ => Nat.zero_le _
  | y :: r, h => by
    have h1 := StrLaws.reprText_len y fun c hc => Nat.lt_trans (h y (List.mem_cons_self ..) c hc) (by decide)
    have h2 := show_strs r fun z hz => h z (List.mem_cons_of_mem _ hz)
    show piled (reprText y :: PyData.shownAll (r.map PyData.str)) ≤ _
    rw [piled_cons, List.map_cons, List.sum_cons, List.length_cons]
    omega
theorem shown_strs {ys : List Str} (h : ∀ y ∈ ys, Asc y) : (PyData.shown (.list (ys.map PyData.str))).length ≤ 10 * (ys.map (·.length)).sum + 4 * ys.length + 2 := by
  have h1 := show_strs ys h
  have h2 := listText_le (PyData.shownAll (ys.map PyData.str))
  show (listText (PyData.shownAll (ys.map PyData.str))).length ≤ _
  omega
theorem showable_strs : ∀ ys : List Str, PyData.showable (.list (ys.map PyData.str)) = true := by
  intro ys
  show PyData.showableAll (ys.map PyData.str) = true
  induction ys with
  | nil => rfl
  | cons y r ih =>
    show (true && PyData.showableAll (r.map PyData.str)) = true
    rw [ih]
    rfl
theorem depth_strs (ys : List Str) : PyData.depth (.list (ys.map PyData.str)) ≤ 40 := by
  have h2 : PyData.depthAll (ys.map PyData.str) = 0 := by
    induction ys with
    | nil => rfl
    | cons y r ih =>
      show max 0 (PyData.depthAll (r.map PyData.str)) = 0
      rw [ih]
      rfl
  simp only [PyData.depth, h2]
  decide
theorem dp_strs {K : PySem.W.Frag} {H : Hp} : ∀ ys : List Str, DpAll K H (ys.map V.str) (ys.map PyData.str)
  | [] => .nil
  | y :: r => .cons (.str y) (dp_strs r)
theorem shaped_strs (ys : List Str) (h : ∀ y ∈ ys, Asc y) : SeqAt.shaped (.list (ys.map PyData.str)) = true := by
  have h1 : PyData.canLayAll0 (ys.map PyData.str) = true := by
    induction ys with
    | nil => rfl
    | cons y r ih =>
      show (PyData.canLay0 (.str y) && PyData.canLayAll0 (r.map PyData.str)) = true
      rw [asc_ok (h y (List.mem_cons_self ..)), ih fun z hz => h z (List.mem_cons_of_mem _ hz)]
      rfl
  have h2 : PyData.depthAll (ys.map PyData.str) = 0 := by
    clear h1 h
    induction ys with
    | nil => rfl
    | cons y r ih =>
      show max 0 (PyData.depthAll (r.map PyData.str)) = 0
      rw [ih]
      rfl
  unfold SeqAt.shaped
  simp only [PyData.canLay0, PyData.depth, h1, h2, Bool.true_and]
  decide
theorem eqv_nil (ds : List PyData) : PyData.eqv (.list ds) (.list []) = decide (ds = []) := by
  cases ds with
  | nil => rfl
  | cons _ _ => rfl
end Pu

set_option Elab.async false
set_option linter.all false
set_option maxRecDepth 100000
set_option maxHeartbeats 4000000
/-! len(x), y in x, y not in x by own methods of x -/
namespace Pu
open PySem PySem.Spec PyProof.Rows L2
section
variable {X : Cx} {CX : CXT} {n : Nat} {f C : Addr} {fd : FuncData} {ps : List Str} {sp : Sp} {E : XK}
theorem own_run {A1 : Around} {pins : List (Addr × Obj)} {σ : L2.St} {H : Hp} {s : Shared} {vs : List V} {us : List Value} {Q : VK} (sb : Sub X n A1) (F : FnOk X.prog X.w X.K X.mg X.base CX n f fd ps sp) (b : Binds X.K fd ps []) (hx : Passes CX X E) (I : Inv X pins σ H s) (r : Vals vs us) (h : sp vs H Q E) :
    wpAny (model X.prog X.w) A1 (call (.ref f) us) (fun u s' => ∃ v H', Inv X pins σ H' s' ∧ RelV v u ∧ Q v H') X.xe s := by
  have e0 : Env0 X.prog X.w X.K X.mg X.base A1 X.stack s H := by
    obtain ⟨e1, e2, e3, e4, e5, e6, e7, e8⟩ := I.env0
    exact ⟨by rw [sb.fr]; exact e1, e2, e3, e4, e5, e6, e7, e8⟩
  have hb := b s us I.kIn (by rw [List.append_nil, ← r.length]; exact F.len _ _ _ _ h)
  rw [List.append_nil] at hb
  refine wpAny_call (codeAny_mono (F.run A1 X.stack s H ⟨us, []⟩ us vs Q E sb.room e0 hb r h) ?_)
  rintro (e | (_ | _ | _ | u)) s' q
  · exact hx pins σ H s e s' I q
  · exact (show False from q).elim
  · exact (show False from q).elim
  · exact (show False from q).elim
  · exact I.after q
/-- an own method of the class C -/
structure Own (X : Cx) (CX : CXT) (n : Nat) (C : Addr) (m : Str) (sp : Sp) : Prop where
  ex : ∃ (f : Addr) (fd : FuncData) (ps : List Str), FnOk X.prog X.w X.K X.mg X.base CX n f fd ps sp ∧ Binds X.K fd ps [] ∧ PySem.W.findIn X.K (.ref C) m = some (some (.ref f)) ∧ PySem.W.isFn X.K (.ref f) = true
theorem call_lenOwn (O : Own X CX n C "__len__" sp) (hr : Room (n + 1) X.A) (hx : Passes CX X E) :
    CallR X (.builtin "len") (fun xs H Q => ∃ a dx fs, xs = [.ref a] ∧ H a = some (.ins C dx fs) ∧ sp [.ref a] H (fun v H' => ∃ i : Nat, v = .int i ∧ i < 1000000 ∧ Q (.int i) H') E) := by
  intro pins s σ H xs us Q I r h
  obtain ⟨f, fd, ps, F, b, hl, hf⟩ := O.ex
  obtain ⟨a, dx, fs, rfl, ha, hq⟩ := h
  obtain ⟨u, rfl, ru⟩ := vals1 r
  obtain rfl : u = Value.ref a := ru
  obtain ⟨mA, J, _⟩ := ins_get I.hok ha
  obtain ⟨od, J, _⟩ := J.look
  refine Calls.call_function_entry kind_len plain_len entry_len (args_len1 _) ?_
  unfold Builtin.«len»
  refine wpAny_bind (m := oneArg "len" _) (wpAny_pure ?_)
  refine wpAny_bind (m := callSpecial? (.ref a) (PySem.Str.ofString "__len__")) (PySem.W.special_fn (name := PySem.Str.ofString "__len__") (args := []) I.kIn J hl (beq_iff_eq.mp hf) (wpAny_mono (own_run (Sub.in1 (⟨hr, rfl⟩ : Sub X (n + 1) X.A)) F b hx I r hq) ?_ fun _ _ z => z))
  rintro u2 s2 ⟨v, H2, I2, rv, i, rfl, hi, q⟩
  obtain ⟨t, rfl⟩ := (show ∃ t, u2 = Value.int i t from rv)
  refine wpAny_bind (wpAny_holding (wpAny_pure ?_))
  refine wpAny_bind (wpAny_letGo ?_)
  show wpAny _ _ (if ((i : Nat) : Int) < 0 then _ else _) _ _ _
  rw [if_neg (by omega)]
  show wpAny _ _ (if ((i : Nat) : Int) ≥ 2 ^ 63 then _ else _) _ _ _
  rw [if_neg (by omega)]
  exact wpAny_bind (wpAny_mkInt (wpAny_pure ⟨_, rfl, .int i, H2, I2.tok _, ⟨_, rfl⟩, q⟩))
/-- y in x, y not in x -/
def rOwnIn (C : Addr) (sp : Sp) (E : XK) (neg : Bool) : R2 := fun y x H Q => ∃ a dx fs, x = .ref a ∧ H a = some (.ins C dx fs) ∧ sp [.ref a, y] H (fun v H' => ∃ b : Bool, v = .bl b ∧ Q (.bl (if neg then !b else b)) H') E
theorem op_inOwn (O : Own X CX n C "__contains__" sp) (hr : Room n X.A) (hx : Passes CX X E) : OpR X (compareOp .In) (rOwnIn C sp E false) := by
  intro pins s σ H y x v u Q I ry rx h
  obtain ⟨f, fd, ps, F, b, hl, hf⟩ := O.ex
  obtain ⟨a, dx, fs, rfl, ha, hq⟩ := h
  obtain rfl : u = Value.ref a := rx
  obtain ⟨mA, J, _⟩ := ins_get I.hok ha
  obtain ⟨od, J, _⟩ := J.look
  obtain ⟨m, hF⟩ := I.fr
  refine PySem.W.in_K hF I.ok.mod.kin J hl hf (wpAny_mono (own_run (⟨hr, rfl⟩ : Sub X n X.A) F b hx I (show Vals [V.ref a, y] [Value.ref a, v] from .cons rfl (.cons ry .nil)) hq) ?_ fun _ _ z => z)
  rintro u2 s2 ⟨v2, H2, I2, rv, i, rfl, q⟩
  obtain rfl : u2 = Value.bool i := rv
  exact wpAny_pure ⟨.bl i, H2, I2, rfl, q⟩
theorem op_notInOwn (O : Own X CX n C "__contains__" sp) (hr : Room n X.A) (hx : Passes CX X E) : OpR X (compareOp .NotIn) (rOwnIn C sp E true) := by
  intro pins s σ H y x v u Q I ry rx h
  obtain ⟨f, fd, ps, F, b, hl, hf⟩ := O.ex
  obtain ⟨a, dx, fs, rfl, ha, hq⟩ := h
  obtain rfl : u = Value.ref a := rx
  obtain ⟨mA, J, _⟩ := ins_get I.hok ha
  obtain ⟨od, J, _⟩ := J.look
  obtain ⟨m, hF⟩ := I.fr
  refine PySem.W.notIn_K hF I.ok.mod.kin J hl hf (wpAny_mono (own_run (⟨hr, rfl⟩ : Sub X n X.A) F b hx I (show Vals [V.ref a, y] [Value.ref a, v] from .cons rfl (.cons ry .nil)) hq) ?_ fun _ _ z => z)
  rintro u2 s2 ⟨v2, H2, I2, rv, i, rfl, q⟩
  obtain rfl : u2 = Value.bool i := rv
  exact wpAny_pure ⟨.bl (!i), H2, I2, rfl, q⟩
end
end Pu

set_option Elab.async false
set_option linter.all false
set_option maxRecDepth 100000
set_option maxHeartbeats 4000000
/-! an own error whose base is ValueError, LookupError or KeyError (whose maker is LookupError's): how it is made -/
namespace PySem.F
theorem store_KE : StoreFacts "KeyError" [.type "KeyError", .type "LookupError", .type "Exception", .type "BaseException", .type "object"] "object.__setattr__" "object" where
  mro := by kernel_rfl
  slot := .of (owner := "object") (n := "__setattr__") (by rw [typeLookup_type, builtinLookup_eq_fast]; kernel_rfl) (by decide +kernel) (by decide +kernel) (by decide +kernel)
    (by first | exact .inl (by decide +kernel) | exact .inr (by decide +kernel)) (by rw [isSubtype_type]; kernel_rfl)
  entry := entry_object_sa
  kind := by decide +kernel
  split := by decide +kernel
  hasOwner := by decide +kernel
  args := fun a b c => by unfold argsOk; kernel_rfl
  passes := fun self => by kernel_rfl
end PySem.F
namespace Er
open PySem PySem.HandSPX
open PySem.W (kdv_tup Looks InitBack)
open PySem.Builtin PySem.Builtin.ObjectAttr
/-- what the maker asks of the classes above -/
structure Above (bm : List Value) (B : String) : Prop where
  base : bm.contains (.type B) = true
  attr : bm.contains (.type "AttributeError") = false
  name : bm.contains (.type "NameError") = false
section
variable {prog : Program} {w : World} {A : Around} {R : Result → Shared → Prop} {E : Value → Shared → Prop} {h : Heap} {g : Array GenState} {d : Drawn} {t : Nat} {os : OsState}
variable {nm q : Str} {C N : Addr} {bs bm bmB : List Value} {hdct : Bool} {sn : List Str} {sub : List Value} {ab : Bool} {col : Option Bool} {dd : Option Addr} {k0 k1 k2 k3 k5 : Option Value} {B newId initId : String}
theorem has (C : Addr) (x : String) (l : List Value) (b : Bool) (e : l.contains (.type x) = b) : (Value.ref C :: l).contains (.type x) = b := by
  rw [List.contains_cons, e]
  rfl
/-- the maker's own look at its first argument -/
theorem look_new (F : ExcBaseFacts B newId initId bmB) (U : Above bm B) {rest : List Value} {Q : Unit → Shared → Prop}
    (hC : h.get? C = some (excClassObj nm q C N bs bm hdct sn sub ab col dd k0 k1 k2 k3 k5 newId)) (hq : Q () ⟨h, g, d, t, os⟩) : wpAny (model prog w) A (checkBuiltinCall newId ⟨.ref C :: rest, []⟩) Q E ⟨h, g, d, t, os⟩ := by
  have hB := has C B bm true U.base
  have hs := F.noStar
  simp only [checkBuiltinCall, F.newKind, F.newSplit, F.newRow]
  repeat (first | refine wpAny_loadPart_at hC ?_ | (refine wpAny_isSubtype_exc hC ?_; rw [hB]) | refine wpAny_staticBase_exc hC ?_ | refine wpAny_madeBy_exc hC ?_ | simp only [bne_self_eq_false, Bool.false_eq_true, if_false] | wp_step)
  exact hq
/-- the maker: a tuple of the arguments, and the error -/
theorem run_new (F : ExcBaseFacts B newId initId bmB) (U : Above bm B) {rest : List Value} (hC : h.get? C = some (excClassObj nm q C N bs bm hdct sn sub ab col dd k0 k1 k2 k3 k5 newId)) (hz : rest.length ≤ sizeLine)
    (hq : R (.ok (.ret (.ref (h.objs.size + 1)))) ⟨(h.push (kdv_tup rest)).push (excO C h.objs.size), g, d, t, os⟩) :
    codeAny (model prog w) A (.builtin newId ⟨.ref C :: rest, []⟩) R ⟨h, g, d, t, os⟩ := by
  have hends := F.ends
  have hB := has C B bm true U.base
  have hA := has C "AttributeError" bm false U.attr
  have hN := has C "NameError" bm false U.name
  refine codeAny_builtinAt F.entry ?_
  unfold Builtin.«BaseException.__new__»
  refine wpAt_bind ?_
  show wpAt _ _ _ (stack >>= _) _ _ _
  refine wpAt_bind (wpAt_stack fun p below => wpAt_of_wpAny ?_)
  wp_walk
  refine wpAt_of_wpAny ?_
  rw [F.owner]
  repeat (first | with_reducible refine wpAny_madeHere_exc F.canon hC ?_ | with_reducible refine wpAny_loadPart_at hC ?_ | (with_reducible refine wpAny_isSubtype_exc hC ?_; first | rw [hB] | rw [hA] | rw [hN]) | wp_step)
  show R _ _
  rw [Heap.size_push]
  exact hq
/-- type.__call__ at such a class -/
theorem run_type (F : ExcBaseFacts B newId initId bmB) (U : Above bm B) {rest : List Value} {fI : Addr} {Q : PySem.Fin → Shared → Prop} (hC : h.get? C = some (excClassObj nm q C N bs bm hdct sn sub ab col dd k0 k1 k2 k3 k5 newId))
    (hi : Looks (model prog w) h (typeLookup (.ref C) "__init__") (some (.ref fI))) (hb : ∀ self, Looks (model prog w) h (bindSpecial (.ref fI) self) (.ref fI, [self])) (hz : rest.length ≤ sizeLine)
    (hq : codeAny (model prog w) A (.call (.ref fI) ⟨.ref (h.objs.size + 1) :: rest, []⟩) (fun r s' => match r with | .ok (.ret v) => v = .none ∧ Q (.done (.ret (.ref (h.objs.size + 1)))) s' | .ok _ => False | .error e => E e s')
      ⟨(h.push (kdv_tup rest)).push (excO C h.objs.size), g, d, t, os⟩) :
    wpAny (model prog w) A (Builtin.«type.__call__» ⟨.ref C :: rest, []⟩) Q E ⟨h, g, d, t, os⟩ := by
  have grows : ∀ b o, h.get? b = some o → ((h.push (kdv_tup rest)).push (excO C h.objs.size)).get? b = some o := fun b o e => Heap.get?_push_of_some _ (Heap.get?_push_of_some _ e)
  have hC₁ := grows _ _ hC
  have hnew : ((h.push (kdv_tup rest)).push (excO C h.objs.size)).get? (h.objs.size + 1) = some (excO C h.objs.size) := by heap_get
  have hself : (Value.ref C :: bm).contains (.ref C) = true := by simp
  repeat (first | with_reducible refine wpAny_loadPart_at hC ?_ | with_reducible refine wpAny_madeBy_exc hC ?_ | wp_step)
  refine codeAny_call_builtin_code (Code.quiet_builtin _ F.quiet) (look_new F U hC ?_)
  refine run_new F U hC hz ?_
  show wpAny _ _ _ _ _ _
  unfold isInstance
  repeat (first | with_reducible refine wpAny_loadPart_at hnew ?_ | (with_reducible refine wpAny_isSubtype_exc hC₁ ?_; rw [hself]) | wp_step)
  show wpAny _ _ (typeLookup (.ref C) _) _ _ _
  refine (hi.keeps grows).at ?_
  refine wpAny_holding (wpAny_bind (((hb (.ref (h.objs.size + 1))).keeps grows).at ?_))
  refine wpAny_bind (wpAny_call (codeAny_mono hq fun r s' z => ?_))
  rcases r with e | (_ | _ | _ | v)
  · exact z
  · exact z.elim
  · exact z.elim
  · exact z.elim
  · obtain ⟨rfl, z⟩ := z
    first
      | exact wpAny_pure (wpAny_pure z)
      | (wp_walk; exact z)
/-- C(..): the maker, then the class's own __init__ -/
theorem call_cls (F : ExcBaseFacts B newId initId bmB) (U : Above bm B) {rest : List Value} {fI : Addr} (hC : h.get? C = some (excClassObj nm q C N bs bm hdct sn sub ab col dd k0 k1 k2 k3 k5 newId))
    (hi : Looks (model prog w) h (typeLookup (.ref C) "__init__") (some (.ref fI))) (hb : ∀ self, Looks (model prog w) h (bindSpecial (.ref fI) self) (.ref fI, [self])) (hz : rest.length ≤ sizeLine)
    (hq : codeAny (model prog w) (A.under (.builtin "type.__call__" ⟨.ref C :: rest, []⟩)) (.call (.ref fI) ⟨.ref (h.objs.size + 1) :: rest, []⟩) (InitBack (h.objs.size + 1) R)
      ⟨(h.push (kdv_tup rest)).push (excO C h.objs.size), g, d, t, os⟩) :
    codeAny (model prog w) A (.call (.ref C) ⟨rest, []⟩) R ⟨h, g, d, t, os⟩ := by
  have f1 := tc_lookup
  have f2 := tc_bind (.ref C)
  have hTy : (⟨h, g, d, t, os⟩ : Shared).TypeIs (.ref C) "type" := ⟨_, hC, rfl⟩
  refine codeAny_of_tree ?_
  show wpAny _ _ (callAny (.ref C) _) _ _ _
  repeat (any_goals (first | assumption | with_reducible refine wpAny_loadPart_at hC ?_ | wp_step))
  refine ⟨rfl, ?_⟩
  refine codeAny_call_builtin_at (Code.quiet_builtin _ (by decide +kernel)) entry_typeCall (wpAny_check_type_call_sub hC (run_type F U hC hi hb hz ?_))
  refine codeAny_mono hq fun r s' z => ?_
  rcases r with e | (_ | _ | _ | v)
  · exact z
  · exact z
  · exact z
  · exact z
  · exact z
end
end Er

set_option Elab.async false
set_option linter.all false
set_option maxRecDepth 100000
set_option maxHeartbeats 4000000
/-! an own error of one field, kept as it was handed in: made, raised, its field read -/
namespace PySem
namespace Er
open PySem.W PySem.Calls PyProof.Rows PySem.HandSPX _root_.Er
/-! ### the text of __init__, the field f -/
def iA (f : Str) (p1 p2 : Pos) : Arguments := { posonlyargs := [], args := [{ arg := "self", annotation := none, pos := p1 }, { arg := f, annotation := none, pos := p2 }], vararg := none, kwonlyargs := [], kw_defaults := [], kwarg := none, defaults := [] }
def iB (f : Str) (q1 q2 q3 q4 : Pos) : List Stmt := [.Assign [.Attribute (.Name "self" q1) f q2] (.Name f q3) q4]
def iS (f : Str) : Scope := { kind := .function, names := [(PySem.Str.ofString "self", .local), (f, .local)], isGenerator := false, isCoroutine := false, more := [] }
def flds : List Str := ["value", "name", "members", "bound", "index", "total", "event"]
abbrev vT : List Value := [.type "ValueError", .type "Exception", .type "BaseException", .type "object"]
abbrev lT : List Value := [.type "LookupError", .type "Exception", .type "BaseException", .type "object"]
abbrev kT : List Value := [.type "KeyError", .type "LookupError", .type "Exception", .type "BaseException", .type "object"]
/-- what the written part says of the class at C and of its __init__ at fI -/
structure ErrTxt (K : Frag) (mg : Str → Option Value) (x f : Str) (C fI : Addr) : Prop where
  ff : f ∈ flds
  gC : mg x = some (.ref C)
  cls : ∃ nm q N bs bm sn sub ab col dd k0 k1 k2 k3 k5, (K.lookup C = some (excClassObj nm q C N bs bm true sn sub ab col dd k0 k1 k2 k3 k5 "ValueError.__new__") ∧ Above bm "ValueError") ∨ (K.lookup C = some (excClassObj nm q C N bs bm true sn sub ab col dd k0 k1 k2 k3 k5 "LookupError.__new__") ∧ Above bm "LookupError")
  over : excOver K C vT = true ∨ excOver K C lT = true ∨ excOver K C kT = true
  sa : findIn K (.ref C) "__setattr__" = some (some (.builtin "object.__setattr__"))
  ga : findIn K (.ref C) "__getattribute__" = some (some (.builtin "BaseException.__getattribute__"))
  gg : findIn K (.ref C) "__getattr__" = some none
  noN : findIn K (.ref C) f = some none
  iC : findIn K (.ref C) "__init__" = some (some (.ref fI))
  tC : typeIn K (.ref fI) = some (.type "function")
  kC : keepIn K (.ref C) = true
  exC : subIn K (.ref C) (.type "BaseException") = some true
  tyC : typeIn K (.ref C) = some (.type "type")
  hdC : hasDictIn K C = true
  isC : isClsIn K C = true
  fn : ∃ (q : Str) (oc : Value) (od : Option Addr) (doc pm : Value) (an : Option Addr) (cdv ct : Value) (osl : Array (Option Value)) (p1 p2 q1 q2 q3 q4 : Pos),
    K.lookup fI = some ⟨oc, od, .func (fnOf "__init__" q (iA f p1 p2) (iB f q1 q2 q3 q4) (iS f) .none .none doc pm an cdv ct), osl⟩ ∧ codeIn K cdv q = true
theorem ErrTxt.clsIn {K : Frag} {mg : Str → Option Value} {x f : Str} {C fI : Addr} (T : ErrTxt K mg x f C fI) : ∃ cd, W.clsIn K C = some cd ∧ cd.hasDict = true := by
  obtain ⟨nm, q, N, bs, bm, sn, sub, ab, col, dd, k0, k1, k2, k3, k5, h | h⟩ := T.cls
  · refine ⟨{ name := nm, bases := bs, mro := .ref C :: bm, ns := N, qualname := q, hasDict := true, slotNames := sn, subclasses := sub, abstract := ab, collection := col, hasDel := false }, ?_, rfl⟩
    unfold W.clsIn
    rw [h.1]
  · refine ⟨{ name := nm, bases := bs, mro := .ref C :: bm, ns := N, qualname := q, hasDict := true, slotNames := sn, subclasses := sub, abstract := ab, collection := col, hasDel := false }, ?_, rfl⟩
    unfold W.clsIn
    rw [h.1]
theorem loadSlot {M : Model} {s : Shared} {name : Str} {scope : Scope} {L a : Addr} {cd : Value} {m : Str → Option Value} {x : Str} {pos : Pos} {v : Value} {Q : Value → Shared → Prop} {A : Around} {E : Value → Shared → Prop} (hn : s.heap.Ns L m) (hv : m x = some v) (h : Q v s)
    (hk : scope.kind = .function := by rfl) (hl : (envOfC name scope L a cd).kindOf x = some .local := by rfl) (hd : (x == ("__debug__" : Str)) = false := by decide) :
    wpAny M A (eval (.Name x pos) (envOfC name scope L a cd)) Q E s := wpAny_Name (wpAny_loadName_local hk hl hn hv h) hd
/-- what __init__ leaves of a fresh error at x -/
structure Left (h h' : Heap) (x C dx t1 : Addr) (f : Str) (v : Value) : Prop where
  keep : ∀ b o, b ≠ x → h.get? b = some o → h'.get? b = some o
  obj : h'.get? x = some { cls := .ref C, dict := some dx, data := .fields #[.ref t1, .none, .none, .none, .bool false, .none] }
  big : h.objs.size ≤ dx
  ne : dx ≠ x
  ns : h'.Ns1 dx (fun y => if y = f then some v else none)
/-- a made error -/
structure Made (h h' : Heap) (e C d : Addr) (f : Str) (v : Value) : Prop where
  keep : ∀ b o, h.get? b = some o → h'.get? b = some o
  new : h.objs.size ≤ e
  obj : ∃ oe vs, h'.get? e = some oe ∧ oe.cls = .ref C ∧ oe.dict = some d ∧ oe.data = .fields vs ∧ vs[1]? = some .none
  big : h.objs.size ≤ d
  ne : d ≠ e
  ns : h'.Ns1 d (fun y => if y = f then some v else none)
section
open Builtin Builtin.ObjectAttr
variable {prog : Program} {w : World} {A : Around} {E : Value → Shared → Prop} {R : Result → Shared → Prop} {s : Shared} {K : Frag} {mg : Str → Option Value} {x0 f : Str} {C fI : Addr}
/-- the store of the field -/
theorem put_field {hp : Heap} {g : Array GenState} {d : Drawn} {t : Nat} {os : OsState} (T : ErrTxt K mg x0 f C fI) {x : Addr} {fv : Array Value} {tk : Tok} {v : Value} (X : K.In hp) (hx : hp.get? x = some { cls := .ref C, data := .fields fv })
    (hq : ∀ h' tk' dx, (∀ b o, b ≠ x → hp.get? b = some o → h'.get? b = some o) → hp.objs.size ≤ dx → dx ≠ x → h'.get? x = some { cls := .ref C, dict := some dx, data := .fields fv } →
      h'.Ns1 dx (fun y => if y = f then some v else none) → R (.ok (.ret .none)) ⟨h', g, d, tk', os⟩) :
    codeAny (model prog w) A (.call (.builtin "object.__setattr__") ⟨[.ref x, .str f tk, v], []⟩) R ⟨hp, g, d, t, os⟩ := by
  have I : W.InstAt hp x { cls := .ref C, data := .fields fv } C none := ⟨hx, rfl, rfl, trivial⟩
  have ht : takerIn K C f = some none := by
    unfold takerIn
    rw [T.noN]
    rfl
  obtain ⟨cd, hcd, hh⟩ := T.clsIn
  have hcls : W.Looks (model prog w) hp (classData C) cd := W.looks_clsIn X hcd
  have hxs : x ≠ hp.objs.size := Nat.ne_of_lt (Heap.lt_size hx)
  have key : ∀ b, wpAny (model prog w) A.in1 (storeInOwnDict (.ref x) (.ref C) (.str f tk) f v b)
      (fun fin s' => match fin with | .done f => R (.ok f) s' | .again c' => c'.quiet = true ∧ codeAny (model prog w) A c' R s') (fun e s' => R (.error e) s') ⟨hp, g, d, t, os⟩ := by
    intro b
    obtain ⟨nm, bs, mro, ns, qn, hd, sn, sb, ab, col, del⟩ := cd
    dsimp only at hh
    subst hh
    unfold storeInOwnDict ownDictForStores
    repeat (first | with_reducible refine HandSPX.store_in_new ?_ ?_ | with_reducible refine wpAny_loadPart_at hx ?_ | with_reducible refine hcls.at ?_ | wp_step)
    · exact ⟨_, #[], _, (Heap.get?_update_ne _ _ _ _ hxs.symm).trans (Heap.get?_push_at rfl rfl), rfl, fun e he => absurd he (by simp), fun _ => rfl⟩
    · intro h' tk' hn' hs
      have hx₁ : (hp.push { cls := .type "dict", data := .dict #[] }).get? x = some { cls := .ref C, data := .fields fv } := Heap.get?_push_of_some _ hx
      refine hq h' tk' hp.objs.size (fun b o hb ho => ?_) (Nat.le_refl _) hxs.symm ?_ hn'
      · exact (hs.2 b (Nat.ne_of_lt (Heap.lt_size ho))).trans ((Heap.get?_update_ne _ _ _ _ hb).trans (Heap.get?_push_of_some _ ho))
      · exact (hs.2 x hxs).trans (Heap.get?_update_self _ hx₁ rfl)
  rcases T.over with o | o | o
  · exact osa_openX F.store_ValueError X I o ht key
  · exact osa_openX F.store_LookupError X I o ht key
  · exact osa_openX F.store_KE X I o ht key
end
section
variable {prog : Program} {w : World} {A : Around} {E : Value → Shared → Prop} {R : Result → Shared → Prop} {s : Shared} {K : Frag} {mg : Str → Option Value} {x0 f : Str} {C fI : Addr}
theorem run_init (T : ErrTxt K mg x0 f C fI) {x t0 : Addr} {v : Value} (X : K.In s.heap) (hlim : s.heap.NoLimit) (hx : s.heap.get? x = some (excO C t0)) (hroom : A.depth < recursionLimit)
    (hq : ∀ h' tk dx, Left s.heap h' x C dx t0 f v → R (.ok (.ret .none)) { s with heap := h', toks := tk }) :
    codeAny (model prog w) A (.call (.ref fI) ⟨[.ref x, v], []⟩) R s := by
  obtain ⟨q, oc, od, doc, pm, an, cdv, ct, osl, p1, p2, q1, q2, q3, q4, ho, hcd⟩ := T.fn
  have hf := T.ff
  simp only [flds, List.mem_cons, List.not_mem_nil, or_false] at hf
  rcases hf with rfl | rfl | rfl | rfl | rfl | rfl | rfl
  all_goals
    refine Att.call_fn (binds := [("self", .ref x), (_, v)]) X hlim ho hcd hroom (BindsTo.of_eq (by first | rfl | with_unfolding_all rfl)) (by first | rfl | decide | with_unfolding_all rfl) (fun s₁ IC => ?_) rfl rfl rfl
    obtain ⟨h₁, tk₁, rfl⟩ := IC.toInCall.same
    have k : ∀ b o, s.heap.get? b = some o → h₁.get? b = some o := IC.toInCall.keep
    have hn := IC.toInCall.ns
    have X₁ : K.In h₁ := X.keeps k
    have hx₁ := k _ _ hx
    show wpAny _ _ (execs _ _) _ _ _
    refine wpAny_execs_cons (plainObj_wpAny_Assign_Attribute ?_)
    refine loadSlot (v := v) hn (by first | rfl | with_unfolding_all rfl | kernel_rfl) (loadSlot (v := .ref x) hn (by first | rfl | with_unfolding_all rfl | kernel_rfl) ?_)
    refine set_plain X₁ (ox := excO C t0) (od := none) ⟨hx₁, rfl, rfl, trivial⟩ T.sa ?_
    refine put_field T X₁ hx₁ (fun h₃ tk₃ dx k₃ dn dne hx₃ hn₃ => ?_)
    show wpAny _ _ (execs _ _) _ _ _
    have z : s.heap.objs.size < h₁.objs.size := hn.lt
    exact wpAny_execs_nil (hq h₃ tk₃ dx ⟨fun b o hb e => k₃ b o hb (k b o e), hx₃, Nat.le_of_lt (Nat.lt_of_lt_of_le z dn), dne, hn₃⟩)
theorem run_made (T : ErrTxt K mg x0 f C fI) {v : Value} (X : K.In s.heap) (hlim : s.heap.NoLimit) (hroom : A.depth + 1 < recursionLimit)
    (hq : ∀ h' tk e d, Made s.heap h' e C d f v → R (.ok (.ret (.ref e))) { s with heap := h', toks := tk }) :
    codeAny (model prog w) A (.call (.ref C) ⟨[v], []⟩) R s := by
  have hc := T.cls
  obtain ⟨hp, g, dr, tk, os⟩ := s
  have k : ∀ b o, hp.get? b = some o → ((hp.push (kdv_tup [v])).push (excO C hp.objs.size)).get? b = some o := fun b o e => Heap.get?_push_of_some _ (Heap.get?_push_of_some _ e)
  have hget : ((hp.push (kdv_tup [v])).push (excO C hp.objs.size)).get? (hp.objs.size + 1) = some (excO C hp.objs.size) := by heap_get
  have hz : [v].length ≤ sizeLine := by
    show 1 ≤ sizeLine
    decide
  have body : codeAny (model prog w) (A.under (.builtin "type.__call__" ⟨.ref C :: [v], []⟩)) (.call (.ref fI) ⟨.ref (hp.objs.size + 1) :: [v], []⟩) (InitBack (hp.objs.size + 1) R) ⟨(hp.push (kdv_tup [v])).push (excO C hp.objs.size), g, dr, tk, os⟩ := by
    refine run_init (s := ⟨(hp.push (kdv_tup [v])).push (excO C hp.objs.size), g, dr, tk, os⟩) T (X.keeps k) (hlim.keeps k) hget ?_ ?_
    · show A.depth + 1 < recursionLimit
      exact hroom
    · rintro h' tk' dx ⟨k', hx, dn, dne, hns⟩
      have old : ∀ b o, hp.get? b = some o → h'.get? b = some o := fun b o e => k' b o (Nat.ne_of_lt (Nat.lt_succ_of_lt (Heap.lt_size e))) (k b o e)
      have z : hp.objs.size + 1 + 1 ≤ dx := by
        first
          | exact dn
          | (have q := dn; rw [Heap.size_push, Heap.size_push] at q; exact q)
      exact ⟨rfl, hq h' tk' (hp.objs.size + 1) dx ⟨old, Nat.le_succ _, ⟨_, _, hx, rfl, rfl, rfl, rfl⟩, Nat.le_trans (Nat.le_trans (Nat.le_succ _) (Nat.le_succ _)) z, dne, hns⟩⟩
  obtain ⟨nm, q, N, bs, bm, sn, sub, ab, col, dd, k0, k1, k2, k3, k5, ⟨hC, U⟩ | ⟨hC, U⟩⟩ := hc
  · exact call_cls F.excBase_ValueError U (X _ _ hC) (looks_findIn X T.iC) (fun self => bind_fn X self T.tC) hz body
  · exact call_cls F.excBase_LookupError U (X _ _ hC) (looks_findIn X T.iC) (fun self => bind_fn X self T.tC) hz body
end
end Er
end PySem

set_option Elab.async false
set_option linter.all false
set_option maxRecDepth 100000
set_option maxHeartbeats 4000000
/-! an own error of one field, over the layer -/
namespace Pu
open PySem PySem.Spec PyProof.Rows L2
open PySem.Er (ErrTxt)
theorem relO_one {v : V} {u : Value} (r : RelV v u) (f g : Str) : RelO (List.lookup g [(f, v)]) (if g = f then some u else none) := by
  by_cases h : g = f
  · subst h
    rw [if_pos rfl, show List.lookup g [(g, v)] = some v by simp [List.lookup]]
    exact r
  · have e : (g == f) = false := by simpa using h
    rw [if_neg h, show List.lookup g [(f, v)] = none by simp [List.lookup, e]]
    trivial
section
variable {X : Cx} {x f : Str} {C fI : Addr}
/-- x(e) -/
def tMkE (C : Addr) (f : Str) (ta : TA) : L2.St → Hp → XK → Prop := fun σ H Q => ta σ H fun vs H1 => ∃ v, vs = [v] ∧ ∀ d, H1 d = none → Q (.ref C) (some d) (upd H1 d (.xd [(f, v)]))
theorem pmk_err {a : Expr} {ta : TA} {p pos : Pos} {k : Nat} (T : ErrTxt X.K X.mg x f C fI) (hr : Room k X.A) (ha : PA X [a] ta) (hg : Gl X x) (hdb : (x == ("__debug__" : Str)) = false := by decide)
    (he : starEach (a :: []) X.env = (false, eval a X.env) :: starEach [] X.env := by rfl) (hpl : (backTo pos (starEach [] X.env)).any (·.1) = false := by rfl) :
    PMk X (.Call (.Name x p) [a] [] pos) (tMkE C f ta) := by
  intro pins s σ H Q I h
  refine wpAny_Call_Name_kw (ld_glob I hg T.gC ?_ hdb)
  refine PySem.W.callWith_K (h₀ := X.base) I.ok.mod.kin T.kC (thn (ha.run pos pins s σ H _ I h) fun us s1 hh => ?_) he hpl
  obtain ⟨vs, H1, I1, r1, v, rfl, q1⟩ := hh
  refine ⟨I1.kIn, ?_⟩
  obtain ⟨u, rfl, ru⟩ := vals1 r1
  show wpAny _ _ (call (.ref C) [u]) _ _ _
  have hlim := I1.nolimit
  obtain ⟨hp, g, dr, tk, os⟩ := s1
  refine wpAny_call (PySem.Er.run_made T I1.kIn hlim (by have := hr.dp; omega) fun h' tk' e d M => ?_)
  show MkP X pins σ Q (.ref e) ⟨h', g, dr, tk', os⟩
  obtain ⟨oe, fv, hoe, hc, hd, hdat, h1⟩ := M.obj
  obtain ⟨G', g1, g2⟩ := restrict h' fun b => decide (b ≠ e)
  have gk : ∀ b, b ≠ e → G'.get? b = h'.get? b := fun b hb => g1 b (decide_eq_true hb)
  have ge : G'.get? e = none := g2 e (by simp)
  have old : ∀ b o, hp.get? b = some o → G'.get? b = some o := fun b o q => (gk b (Nat.ne_of_lt (Nat.lt_of_lt_of_le (Heap.lt_size q) M.new))).trans (M.keep b o q)
  have ob : ObjOk X.prog X.w (upd H1 d (.xd [(f, v)])) G' d (.xd [(f, v)]) := ⟨_, M.ns.at (fun o q => (gk d M.ne).trans q), fun y => relO_one ru f y⟩
  have J : Inv X pins σ (upd H1 d (.xd [(f, v)])) ⟨G', g, dr, tk', os⟩ := I1.laid (t' := tk') old M.big ob
  refine ⟨e, oe, fv, ⟨G', g, dr, tk', os⟩, _, .ref C, some d, rfl, J, fun b o q => ?_, ge, hoe, ⟨hc, hd⟩, hdat, h1, ?_, rfl, I1.bare, raises_own T.exC T.tyC, q1 d (I1.hok.fresh M.big)⟩
  · by_cases hb : b = e
    · have q' : G'.get? b = some o := q
      rw [hb, ge] at q'
      cases q'
    · exact (gk b hb).symm.trans q
  · rw [upd_ne (Ne.symm M.ne)]
    exact I1.hok.fresh M.new
/-- raise x(e) -/
def tRaiseE (C : Addr) (f : Str) (W : WX) (ta : TA) : TS := fun _ σ H => tMkE C f ta σ H fun cls d H' => W cls d σ H'
theorem ps_raiseE {a : Expr} {ta : TA} {W : WX} {p pos pos2 : Pos} {k : Nat} (hc : X.calm = true) (T : ErrTxt X.K X.mg x f C fI) (hr : Room k X.A) (tk : Takes X W) (ha : PA X [a] ta) (hg : Gl X x) (hdb : (x == ("__debug__" : Str)) = false := by decide)
    (he : starEach (a :: []) X.env = (false, eval a X.env) :: starEach [] X.env := by rfl) (hpl : (backTo pos (starEach [] X.env)).any (·.1) = false := by rfl) :
    PS X (.Raise (some (.Call (.Name x p) [a] [] pos)) none pos2) (tRaiseE C f W ta) := ps_raise hc tk (pmk_err T hr ha hg hdb he hpl)
/-- e.f, e the error that the suite holds at a, of the class cls with its dict d -/
def tByE (C : Addr) (f : Str) (a : Addr) (cls : Value) (d : Option Addr) (te : TE) : TE := fun σ H Q => te σ H fun y H1 => y = .ref a ∧ cls = .ref C ∧ ∃ (dd : Addr) (v : V), d = some dd ∧ H1 dd = some (.xd [(f, v)]) ∧ Q v H1
theorem pe_byE {a : Addr} {oe : Obj} {cls : Value} {d : Option Addr} {pn : List (Addr × Obj)} {e : Expr} {te : TE} {pos : Pos} (T : ErrTxt X.K X.mg x f C fI) (hz : Zc cls d oe) (hf : ∃ vs, oe.data = .fields vs) (he : PE (X.suite a ((a, oe) :: pn)) e te)
    (hb : attributeBase e f X.env (eval e X.env) = eval e X.env := by rfl) : PE (X.suite a ((a, oe) :: pn)) (.Attribute e f pos) (tByE C f a cls d te) := by
  constructor
  intro pins s σ H Q I h
  refine attr_of hb (thn (he.run pins s σ H _ I h) fun u s1 hh => ?_)
  obtain ⟨y, H1, I1, ry, rfl, rfl, dd, v, rfl, ea, q⟩ := hh
  obtain rfl : u = Value.ref a := ry
  obtain ⟨ha, _⟩ := I1.pin (a, oe) (List.mem_append_left _ List.mem_cons_self)
  obtain ⟨vs, hd⟩ := hf
  have hx : ObjOk X.prog X.w H1 s1.heap dd (.xd [(f, v)]) := I1.hok dd _ ea
  obtain ⟨mA, hns, hr⟩ := hx
  obtain ⟨od, ho, hl⟩ := lookIn_ns hns
  have l : List.lookup f [(f, v)] = some v := by simp [List.lookup]
  obtain ⟨u, hu, ru⟩ := RelO.some_of (v := v) (o := mA f) (by rw [← l]; exact hr f)
  have J : PySem.W.InstAt s1.heap a oe C (some od) := ⟨ha, hz.1, by unfold PySem.W.notCls; rw [hd] <;> rfl, by rw [hz.2]; exact ho⟩
  exact HandSPX.exc_get I1.kIn J T.ga T.gg T.exC (PySem.W.findObj_own T.hdC T.noN rfl (by rw [hl, hu])) (handed_of ru) ⟨v, H1, I1.tok _, ru, q⟩
end
end Pu

set_option Elab.async false
set_option linter.all false
set_option maxRecDepth 100000
set_option maxHeartbeats 4000000
/-! {**d, k: v}: a display that takes a dict in -/
namespace PySem
section
variable {prog : Program} {w : World} {K : Type} [DecidableEq K] {knd : KeyKind prog w K} {A : Around} {E : Value → Shared → Prop} {s : Shared}
/-- one entry put: its hash is known -/
theorem wpAny_put {d : Addr} {kvs : List (K × Value)} {k : K} {key v : Value} {Q : Unit → Shared → Prop} (hkey : knd.is k key = true) (hm : s.heap.DictOf knd d kvs)
    (hQ : ∀ h', h'.DictOf knd d (stored kvs k v) → Heap.SameBut d s.heap h' → Q () { s with heap := h' }) (hsz : kvs.length ≤ sizeLine) :
    wpAny (model prog w) A (dictPut d (knd.hash k) key v) Q E s := by
  obtain ⟨o, es, ep, ho, hc, hd, hk, hp, hn⟩ := hm
  have hes : es.size ≤ sizeLine := by
    have e1 := hp.length
    have e2 : es.toList.length = es.size := by simp
    omega
  unfold dictPut
  refine wpAny_bind (wpAny_dictFind_of hkey ho hd hk ?_)
  have hidx : (es.findIdx? fun e => knd.is k e.key) = kvs.findIdx? fun kv => decide (kv.1 = k) := by
    rw [← hp.findIdx k]
    obtain ⟨l⟩ := es
    simp
  cases hi : es.findIdx? fun e => knd.is k e.key with
  | some i =>
    refine wpAny_updateDict ho hd (hQ _ ⟨_, _, ep, Heap.get?_update_self _ ho (Obj.isFreed_of_dict (Obj.data_mapDict hd _)), hc.mapDict _, Obj.data_mapDict hd _, hk.modify _ _, ?_, ?_⟩ (Heap.SameBut.update ..))
    · rw [stored, if_pos (any_of_findIdx_some (hidx ▸ hi))]
      have hl : (es.toList.findIdx? fun e => knd.is k e.key) = some i := by
        rw [← hi]
        obtain ⟨l⟩ := es
        simp
      have := hp.modify hn hl v
      obtain ⟨l⟩ := es
      simpa using this
    · rw [stored, if_pos (any_of_findIdx_some (hidx ▸ hi)), keys_map_store]
      exact hn
  | none =>
    have hnot : k ∉ kvs.map (·.1) := not_mem_of_findIdx_none (hidx ▸ hi)
    have hany : ¬ (kvs.any fun kv => decide (kv.1 = k)) = true := by
      rw [List.any_eq_true]
      rintro ⟨kv, hkv, he⟩
      exact hnot (List.mem_map.mpr ⟨kv, hkv, of_decide_eq_true he⟩)
    refine wpAny_updateDictKeys (hz := hes) ho hd (hQ _ ⟨_, _, ep + 1, Heap.get?_update_self _ ho (Obj.isFreed_of_dict (Obj.data_mapDictKeys hd _)), hc.mapDictKeys _, Obj.data_mapDictKeys hd _, hk.push hkey _, ?_, ?_⟩ (Heap.SameBut.update ..))
    · rw [stored, if_neg hany]
      have := hp.append hkey (knd.hash k) v
      obtain ⟨l⟩ := es
      simpa using this
    · rw [stored, if_neg hany, List.map_append, List.nodup_append]
      refine ⟨hn, by simp, ?_⟩
      intro a ha b hb
      simp only [List.map_cons, List.map_nil, List.mem_singleton] at hb
      subst hb
      exact fun e => hnot (e ▸ ha)
theorem sub_dd : isSubtype (.type "dict") (.type "dict") = pure true := by rw [isSubtype_type]; kernel_rfl
/-- a dict's entries put into another dict, one by one -/
theorem wpAny_merge {a d : Addr} {ds kvs : List (K × Value)} {Q : Unit → Shared → Prop} (hne : a ≠ d) (hsys : (a == sysModules) = false) (hd : s.heap.DictOf knd d ds) (ha : s.heap.DictOf knd a kvs)
    (hQ : ∀ h', h'.DictOf knd d (merged ds kvs) → Heap.SameBut d s.heap h' → Q () { s with heap := h' }) (hsz : ds.length + kvs.length ≤ sizeLine) :
    wpAny (model prog w) A (mergeMapping d (.ref a) false) Q E s := by
  obtain ⟨od, esd, epd, hod, hcd, hdd, hkd, hpd, hnd⟩ := id hd
  obtain ⟨oa, esa, epa, hoa, hca, hda, hka, hpa, hna⟩ := id ha
  have hT : s.TypeIs (.ref a) "dict" := ⟨oa, hoa, hca.1⟩
  have hlen : kvs.length = esa.size := by
    rw [← hpa.length]
    simp
  have noRef : ∀ e ∈ esa, ∀ x, e.key ≠ .ref x := fun e he x z => by
    obtain ⟨k, hk, _⟩ := hka e he
    have := knd.byValue k _ hk
    rw [z] at this
    cases this
  unfold mergeMapping
  refine wpAny_bind (wpAny_isInstance hT sub_dd ?_)
  rw [if_pos rfl]
  refine wpAny_bind (wpAny_specialOf hT F.slot_dict_iter.lookup (wpAny_bind (wpAny_pure ?_)))
  rw [show ((some (Value.builtin "dict.__iter__") : Option Value) == some (.builtin "dict.__iter__")) = true by decide +kernel]
  dsimp only
  rw [if_neg (by rw [hsys]; exact Bool.false_ne_true)]
  refine wpAny_bind (wpAny_dictEntries hod hdd ?_)
  have first : esd.isEmpty = true ∨ esd.isEmpty = false := by
    cases esd.isEmpty
    · exact .inr rfl
    · exact .inl rfl
  have go : ∀ (f : Nat → PUnit → Sem (ForInStep PUnit)) (R : PUnit → Shared → Prop),
      (∀ (i : Nat) (h' : Heap) (e : DictEntry) (T : ForInStep PUnit → Shared → Prop), i < esa.size → h'.get? a = some oa → esa[i]? = some e →
        wpAny (model prog w) A (dictPut d e.hash e.key e.val) (fun _ s' => ∃ h'', s' = { s with heap := h'' } ∧ h''.get? a = some oa ∧ T (.yield PUnit.unit) s') E { s with heap := h' } → wpAny (model prog w) A (f i PUnit.unit) T E { s with heap := h' }) →
      (∀ h', h'.DictOf knd d (merged ds kvs) → Heap.SameBut d s.heap h' → R PUnit.unit { s with heap := h' }) →
      wpAny (model prog w) A (forIn (List.range esa.size) PUnit.unit f) R E s := by
    intro f R hf hR
    rw [List.range_eq_range']
    refine wpAny_forIn_list _
      (fun rest _ s' => ∃ h' i, s' = { s with heap := h' } ∧ rest = List.range' i (esa.size - i) ∧ i ≤ esa.size ∧ h'.DictOf knd d (merged ds (kvs.take i)) ∧ h'.get? a = some oa ∧ Heap.SameBut d s.heap h')
      _ ?_ ?_ _ _ ⟨s.heap, 0, rfl, by simp, Nat.zero_le _, by simpa [merged] using hd, hoa, Heap.SameBut.refl _ _⟩
    · rintro x rest b s' ⟨h', i, rfl, hr, hi, hd', hoa', hs'⟩
      have hlt : i < esa.size := by
        rcases Nat.lt_or_ge i esa.size with h | h
        · exact h
        · rw [Nat.sub_eq_zero_of_le h] at hr
          simp at hr
      obtain ⟨rfl, hrest⟩ : x = i ∧ rest = List.range' (i + 1) (esa.size - (i + 1)) := by
        have e : esa.size - i = (esa.size - (i + 1)) + 1 := by omega
        rw [e, List.range'_succ] at hr
        injection hr with h1 h2
        exact ⟨h1, h2⟩
      obtain ⟨kv, hkv⟩ : ∃ kv, kvs[x]? = some kv := ⟨kvs[x]'(by rw [hlen]; exact hlt), List.getElem?_eq_getElem _⟩
      obtain ⟨k, v⟩ := kv
      obtain ⟨hkey, hval⟩ := hpa.get? (e := esa[x]) (by simp [hlt]) hkv
      obtain ⟨k', hkey', hhash⟩ := hka esa[x] (Array.getElem_mem hlt)
      obtain rfl : k' = k := knd.inj _ _ _ hkey' hkey
      have hmx : (merged ds (kvs.take x)).length ≤ sizeLine := by
        have e1 := merged_length_le ds (kvs.take x)
        have e2 : (kvs.take x).length ≤ kvs.length := by
          rw [List.length_take]
          omega
        omega
      refine hf x h' esa[x] _ hlt hoa' (Array.getElem?_eq_getElem hlt) ?_
      rw [hhash, hval]
      refine wpAny_put (s := { s with heap := h' }) hkey hd' (fun h'' hd'' hs'' => ?_) hmx
      have hoa'' : h''.get? a = some oa := (hs''.2 a hne).trans hoa'
      exact ⟨h'', rfl, hoa'', h'', x + 1, rfl, hrest, hlt, by rw [merged_take_succ ds kvs x (k', v) hkv]; exact hd'', hoa'', hs'.trans hs''⟩
    · rintro b s' ⟨h', i, rfl, hr, hi, hd', hoa', hs'⟩
      have hin : i = esa.size := by
        rcases Nat.lt_or_ge i esa.size with h | h
        · have e : esa.size - i = (esa.size - (i + 1)) + 1 := by omega
          rw [e, List.range'_succ] at hr
          exact nomatch hr
        · exact Nat.le_antisymm hi h
      rw [hin, ← hlen, List.take_length] at hd'
      exact hR h' hd' hs'
  rcases first with e1 | e1
  · rw [if_pos e1]
    refine wpAny_bind (wpAny_dictEntries hoa hda (wpAny_bind ?_))
    rw [← Array.forIn_toList]
    refine wpAny_forIn_list _ (fun rest _ s' => s' = s ∧ ∀ e ∈ rest, ∀ x, e.key ≠ .ref x) _ ?_ ?_ _ _ ⟨rfl, fun e he => noRef e (Array.mem_toList_iff.mp he)⟩
    · rintro x rest b s' ⟨rfl, h⟩
      have h1 := h x (List.mem_cons_self ..)
      have h2 : ∀ e ∈ rest, ∀ y, e.key ≠ .ref y := fun e he => h e (List.mem_cons_of_mem _ he)
      cases hk : x.key with
      | ref y => exact absurd hk (h1 y)
      | _ => exact wpAny_pure ⟨rfl, h2⟩
    · rintro b s' ⟨rfl, _⟩
      refine wpAny_bind (wpAny_dictEntries hoa hda (wpAny_bind (wpAny_dictEpoch hoa hda (wpAny_bind (go _ _ ?_ fun h' h1 h2 => wpAny_pure (hQ h' h1 h2))))))
      intro i h' e T hi hoa' hei hput
      refine wpAny_bind (wpAny_dictEntries hoa' hda ?_)
      rw [hei]
      refine wpAny_bind (wpAny_holding ?_)
      rw [if_neg Bool.false_ne_true]
      refine wpAny_mono hput ?_ (fun _ _ z => z)
      rintro _ s' ⟨h'', rfl, hoa'', hT'⟩
      refine wpAny_bind (wpAny_dictEpoch hoa'' hda ?_)
      rw [if_neg (by simp)]
      exact wpAny_pure hT'
  · rw [if_neg (by rw [e1]; exact Bool.false_ne_true)]
    refine wpAny_bind (wpAny_dictEntries hoa hda (wpAny_bind (wpAny_dictEpoch hoa hda (wpAny_bind (go _ _ ?_ fun h' h1 h2 => wpAny_pure (hQ h' h1 h2))))))
    intro i h' e T hi hoa' hei hput
    refine wpAny_bind (wpAny_dictEntries hoa' hda ?_)
    rw [hei]
    refine wpAny_bind (wpAny_holding ?_)
    rw [if_neg Bool.false_ne_true]
    refine wpAny_mono hput ?_ (fun _ _ z => z)
    rintro _ s' ⟨h'', rfl, hoa'', hT'⟩
    refine wpAny_bind (wpAny_dictEpoch hoa'' hda ?_)
    rw [if_neg (by simp)]
    exact wpAny_pure hT'
end
end PySem

set_option Elab.async false
set_option linter.all false
set_option maxRecDepth 100000
set_option maxHeartbeats 4000000
/-! {**d, k: v}, over the layer -/
namespace PySem
/-- the tree of such a display -/
theorem display_two {M : Model} {A : Around} {E : Value → Shared → Prop} {Q : Value → Shared → Prop} {s : Shared} (m k v : Sem Value)
    (h : wpAny M A m (fun x s1 => wpAny M A (mergeMapping s.heap.objs.size x false) (fun _ s2 => wpAny M A (subDict [(k, v)]) (fun sub s3 => wpAny M A (mergeMapping s.heap.objs.size (.ref sub) false) (fun _ s4 => Q (.ref s.heap.objs.size) s4) (fun _ _ => False) s3) E s2) (fun _ _ => False) s1) E
      { s with heap := s.heap.push { cls := .type "dict", data := .dict #[] } }) :
    wpAny M A (dictDisplay [(none, m), (some k, v)]) Q E s := by
  unfold dictDisplay
  dsimp only
  simp only [List.forIn_cons, List.forIn_nil, List.isEmpty_nil, if_true, pure_bind, bind_assoc]
  refine wpAny_bind (wpAny_alloc (wpAny_bind (wpAny_holding (wpAny_mono h (fun x s1 h1 => ?_) fun _ _ z => z))))
  refine wpAny_bind (wpAny_onRaise (wpAny_tryCatch (wpAny_onRaise (wpAny_holding (wpAny_mono h1 (fun _ s2 h2 => ?_) fun _ _ z => z.elim)))))
  simp only [List.nil_append, List.length_singleton, show ((1 : Nat) == 17) = false from rfl, Bool.false_eq_true, if_false, pure_bind, List.isEmpty_cons, bind_assoc]
  refine wpAny_bind (wpAny_holding (wpAny_mono h2 (fun sub s3 h3 => ?_) fun _ _ z => z))
  refine wpAny_bind (wpAny_onRaise (wpAny_holding (wpAny_mono h3 (fun _ s4 h4 => ?_) fun _ _ z => z.elim)))
  exact wpAny_pure h4
end PySem
namespace L2
open PySem PySem.Spec PyProof.Rows
/-- {**e, k: v}: the new dict at p stands empty while e is read, the one pair's dict at q while k and v are -/
def tTake (te tk tv : TE) : TE := fun σ H Q => ∀ p, H p = none → te σ (upd H p (.dK [])) fun x H1 => ∃ (a : Addr) (kvs : List (Key × V)), x = .ref a ∧ a ≠ p ∧ H1 a = some (.dK kvs) ∧ H1 p = some (.dK []) ∧ kvs.length ≤ 1000 ∧
  ∀ q, (upd H1 p (.dK (mergeK [] kvs))) q = none → tk σ (upd (upd H1 p (.dK (mergeK [] kvs))) q (.dK [])) fun y H2 => tv σ H2 fun z H3 => ∃ k : Key, y = kV k ∧ H3 p = some (.dK (mergeK [] kvs)) ∧ H3 q = some (.dK []) ∧
    Q (.ref p) (upd (upd H3 q (.dK [(k, z)])) p (.dK (putK (mergeK [] kvs) k z)))
theorem pe_take {X : Cx} {e k v : Expr} {pos : Pos} {te tk tv : TE} (he : PE X e te) (hk : PE X k tk) (hv : PE X v tv) : PE X (.Dict [none, some k] [e, v] pos) (tTake te tk tv) := by
  constructor
  intro pins s σ H Q I read
  rw [arm_eval_Dict]
  refine wpAny_bind (wpAny_standAt ?_)
  show wpAny _ _ (dictDisplay [(none, do let x ← eval e X.env; standAt pos; pure x), (some (eval k X.env), do let x ← eval v X.env; standAt pos; pure x)]) _ _ _
  refine display_two _ _ _ ?_
  have hn := I.hok.fresh (Nat.le_refl s.heap.objs.size)
  have I1 := I.laid (a := s.heap.objs.size) (o := .dK []) (h' := s.heap.push { cls := .type "dict", data := .dict #[] }) (t' := s.toks) (fun _ _ q => Heap.get?_push_of_some _ q) (Nat.le_refl _) (dk_empty s.heap I.big)
  refine wpAny_bind (thn (he.run pins _ σ _ _ I1 (read _ hn)) ?_)
  rintro u s1 ⟨x, H1, J1, rx, a, kvs, rfl, hap, ha, hp, hz, q2⟩
  refine wpAny_bind (wpAny_standAt (wpAny_pure ?_))
  obtain rfl : u = Value.ref a := rx
  obtain ⟨za, sa, vs, rel, dd⟩ := dk_of J1.hok ha
  obtain ⟨zp, sp, vs0, r0, dd0⟩ := dk_of J1.hok hp
  cases r0
  have lvs : vs.length = kvs.length := rel.length.symm
  refine wpAny_merge (knd := mixKind X.prog X.w) hap sa dd0 dd (fun h2 d2 sb2 => ?_) (by
    show 0 + vs.length ≤ sizeLine
    rw [sizeLine_eq]
    omega)
  have e2 : ∃ o, h2.get? s.heap.objs.size = some o := let ⟨o, _, _, ho, _⟩ := d2; ⟨o, ho⟩
  have hm : (mergeK [] kvs).length ≤ 1000 := by
    have h1 := length_mergeK kvs []
    rw [List.length_nil] at h1
    omega
  have J2 := d_write (t' := s1.toks) J1 (by rw [hp]; exact True.intro) sb2 e2 (dk_new (by rw [sizeLine_eq]; omega) sp (rel.merge .nil) d2)
  have hq := J2.hok.fresh (Nat.le_refl h2.objs.size)
  have J3 := J2.laid (a := h2.objs.size) (o := .dK []) (h' := h2.push { cls := .type "dict", data := .dict #[] }) (t' := s1.toks) (fun _ _ q => Heap.get?_push_of_some _ q) (Nat.le_refl _) (dk_empty h2 J2.big)
  have one : PPs X pos [some k] [v] [(tk, tv)] := pps_cons hk hv pps_nil
  refine wpAny_subDict (knd := mixKind X.prog X.w) (by show 1 ≤ 15; decide) ?_
  have walk := one.run pins _ σ _ (fun ps H3 => ∃ ky : Key, (ps.headD (.non, .non)).1 = kV ky ∧ H3 s.heap.objs.size = some (.dK (mergeK [] kvs)) ∧ H3 h2.objs.size = some (.dK []) ∧
    Q (.ref s.heap.objs.size) (upd (upd H3 h2.objs.size (.dK [(ky, (ps.headD (.non, .non)).2)])) s.heap.objs.size (.dK (putK (mergeK [] kvs) ky (ps.headD (.non, .non)).2)))) J3 (q2 _ hq)
  refine thn (wpAny_evalPairs_len walk) ?_
  · rintro ws s3 ⟨lw, ps, H3, J4, rvv, ky, hky, hp3, hq3, fin⟩
    obtain ⟨y, z, rfl⟩ : ∃ y z, ps = [(y, z)] := by
      have l1 : ps.length = 1 := (Paired.length rvv).trans lw
      match ps, l1 with
      | [(y, z)], _ => exact ⟨y, z, rfl⟩
    obtain rfl : y = kV ky := hky
    obtain ⟨rs, c, rk⟩ := carries_of (P := X.prog) (w := X.w) (kvs := [(ky, z)]) rvv
    obtain ⟨zq, sq, vq0, rq0, dq0⟩ := dk_of J4.hok hq3
    cases rq0
    refine ⟨rs, c, dq0, fun h4 d4 sb4 => ?_⟩
    have e4 : ∃ o, h4.get? h2.objs.size = some o := let ⟨o, _, _, ho, _⟩ := d4; ⟨o, ho⟩
    have hqp : h2.objs.size ≠ s.heap.objs.size := fun e => by
      rw [e, upd_same] at hq
      cases hq
    have J5 := d_write (t' := s3.toks + ws.length) J4 (by rw [hq3]; exact True.intro) sb4 e4 (dk_new (kvs := mergeK [] [(ky, z)]) (by
      rw [sizeLine_eq]
      have : (mergeK [] [(ky, z)]).length ≤ 1 := length_mergeK [(ky, z)] []
      omega) sq (rk.merge .nil) d4)
    have hp5 : (upd H3 h2.objs.size (.dK (mergeK [] [(ky, z)]))) s.heap.objs.size = some (.dK (mergeK [] kvs)) := by
      rw [upd_ne (Ne.symm hqp)]
      exact hp3
    obtain ⟨zp5, sp5, vp, rp, dp⟩ := dk_of J5.hok hp5
    have lrs : rs.length = 1 := rk.length.symm
    have lvp : vp.length ≤ 1000 := by
      rw [← rp.length]
      exact hm
    have lm := merged_length_le ([] : List (Key × Value)) rs
    refine wpAny_merge (knd := mixKind X.prog X.w) hqp sq dp d4 (fun h6 d6 sb6 => ?_) (by
      rw [List.length_nil] at lm
      rw [sizeLine_eq]
      omega)
    have e6 : ∃ o, h6.get? s.heap.objs.size = some o := let ⟨o, _, _, ho, _⟩ := d6; ⟨o, ho⟩
    have lk := length_mergeK (mergeK [] [(ky, z)]) (mergeK [] kvs)
    have J6 := d_write (t' := s3.toks + ws.length) J5 (by rw [hp5]; exact True.intro) sb6 e6 (dk_new (kvs := mergeK (mergeK [] kvs) (mergeK [] [(ky, z)])) (by
      rw [sizeLine_eq]
      have : (mergeK [] [(ky, z)]).length ≤ 1 := length_mergeK [(ky, z)] []
      omega) sp5 ((rk.merge .nil).merge rp) d6)
    exact ⟨.ref s.heap.objs.size, _, J6, rfl, fin⟩
end L2

set_option Elab.async false
set_option linter.all false
set_option maxRecDepth 100000
set_option maxHeartbeats 4000000
/-! readings with two ways, sequences that are lists or tuples, defs that raise -/
namespace Pu
open PySem PySem.Spec PyProof.Rows L2
section
variable {X : Cx}
theorem pi_or {tg e : Expr} {t1 t2 : TI} (h1 : PI X tg e t1) (h2 : PI X tg e t2) : PI X tg e (fun σ H R => t1 σ H R ∨ t2 σ H R) := by
  constructor
  rintro pins s σ H R I (h | h)
  · exact h1.run pins s σ H R I h
  · exact h2.run pins s σ H R I h
theorem pe_either {e : Expr} {t1 t2 : TE} (h1 : PE X e t1) (h2 : PE X e t2) : PE X e (fun σ H Q => t1 σ H Q ∨ t2 σ H Q) := by
  constructor
  rintro pins s σ H Q I (h | h)
  · exact h1.run pins s σ H Q I h
  · exact h2.run pins s σ H Q I h
theorem isiTK (K : PySem.W.Frag) (h : X.K = K := by rfl) : CallR X (.builtin "isinstance") (rIsiT K) := by
  subst h
  exact call_isiT
theorem slSeq (K : PySem.W.Frag) (h : X.K = K := by rfl) : SlR X (fun x lo hi H Q => rSlL K x lo hi H Q ∨ rSlT K x lo hi H Q) := by
  subst h
  exact sl_list.or sl_tup
theorem tupOf (K : PySem.W.Frag) (h : X.K = K := by rfl) : CallR X (.type "tuple") (fun xs H Q => ∃ p ys, xs = [.ref p] ∧ ((SqL K H p ys ∧ ∀ l, H l = none → Q (.ref l) (upd H l (.tup ys))) ∨ (SqT K H p ys ∧ Q (.ref p) H))) := by
  subst h
  exact call_tuple_of
theorem lstOf (K : PySem.W.Frag) (h : X.K = K := by rfl) : CallR X (.type "list") (fun xs H Q => ∃ p ys, xs = [.ref p] ∧ (SqL K H p ys ∨ SqT K H p ys) ∧ ∀ l, H l = none → Q (.ref l) (upd H l (.lst ys))) := by
  subst h
  exact call_list_of
/-- a list or a tuple -/
abbrev Sq (K : PySem.W.Frag) (H : Hp) (a : Addr) (xs : List V) : Prop := SqL K H a xs ∨ SqT K H a xs
theorem sql_same {K : PySem.W.Frag} {H H' : Hp} {a : Addr} {xs : List V} (h : SqL K H a xs) (s : Same H H') : SqL K H' a xs := by
  rcases h with (h | ⟨o, h⟩) | h
  · exact .inl (.inl (s _ _ h))
  · exact .inl (.inr ⟨o, s _ _ h⟩)
  · exact .inr h
theorem sqt_same {K : PySem.W.Frag} {H H' : Hp} {a : Addr} {xs : List V} (h : SqT K H a xs) (s : Same H H') : SqT K H' a xs := by
  rcases h with (h | ⟨o, h⟩) | h
  · exact .inl (.inl (s _ _ h))
  · exact .inl (.inr ⟨o, s _ _ h⟩)
  · exact .inr h
theorem sq_same {K : PySem.W.Frag} {H H' : Hp} {a : Addr} {xs : List V} (h : Sq K H a xs) (s : Same H H') : Sq K H' a xs := by
  exact h.elim (fun h => .inl (sql_same h s)) fun h => .inr (sqt_same h s)
theorem walk_enumT {K : PySem.W.Frag} {a : Addr} {xs : List V} : Walk (IteT K a) xs.length (fun H => SqT K H a xs) (YPair (fun i => some (.int (i : Nat))) (fun i => xs[i]?)) := by
  refine ⟨fun i _ hi q => ⟨xs, xs[i], q, by simp [hi]⟩, fun _ q => ⟨xs, q, Nat.le_refl _⟩, fun i H v H' _ q y => ?_⟩
  obtain ⟨T, x, h1, h2, h3, h4⟩ := y
  exact ⟨T, .int (i : Nat), x, h1, h2, h3, rfl, h4 xs q⟩
/-- enumerate(a list or a tuple) -/
def iEnumS (K : PySem.W.Frag) (ta : TA) : TI := fun σ H R => iEnum K ta σ H R ∨ iEnumT K ta σ H R
theorem pi_enumS {e : Expr} {ta : TA} {p pos tpos : Pos} {elts : List Expr} {kk : Nat} (K : PySem.W.Frag) (hg : Gl X "enumerate") (hm : X.mg "enumerate" = none) (ha : PA X [e] ta) (hs : starEach [e] X.env = [(false, eval e X.env)] := by rfl) (h : X.K = K := by rfl) :
    PI X (.Tuple elts kk tpos) (.Call (.Name "enumerate" p) [e] [] pos) (iEnumS K ta) := by
  subst h
  exact pi_or (pi_enum hg hm ha hs) (pi_enumT hg hm ha hs)
def iSeq (K : PySem.W.Frag) (tl : TE) : TI := fun σ H R => iList K tl σ H R ∨ iTup K tl σ H R
theorem pi_seq {tg l : Expr} {tl : TE} (K : PySem.W.Frag) (hl : PE X l tl) (h : X.K = K := by rfl) : PI X tg l (iSeq K tl) := by
  subst h
  exact pi_or (pi_list hl) (pi_tup hl)
end
/-! ### loops over such a sequence, which stays -/
section
variable {K : PySem.W.Frag} {a : Addr} {xs : List V}
theorem for_seq {te : TE} {g : TG} {tb : TS} {D : Ends} {σ : L2.St} {H : Hp} (Pv : Nat → L2.St → Hp → Prop) (he : ∀ Q : VK, Q (.ref a) H → te σ H Q) (hq : Sq K H a xs) (h0 : Pv 0 σ H) (hG : ∀ i σ' H', i ≤ xs.length → Pv i σ' H' → Same H H')
    (hs : ∀ i x σ' H', xs[i]? = some x → Pv i σ' H' → g x σ' H' fun σ2 H2 => tb { D with nx := Pv (i + 1), ct := Pv (i + 1), bk := D.nx } σ2 H2) (hd : ∀ σ' H', Pv xs.length σ' H' → D.nx σ' H') : tFor (iSeq K te) g tb D σ H := by
  rcases hq with hl | ht
  · refine .inl (he _ ⟨a, rfl, ⟨xs, hl⟩, for_it (Walk.mono (walk_list (K := K) (a := a) (xs := xs)) (G' := fun H' => Same H H') (fun H' s => sql_same hl s) fun _ _ _ _ _ _ y => y) Pv h0 hG (fun i x σ' H1 H2 hi p y => ?_) hd⟩)
    obtain ⟨rfl, hx⟩ := y
    exact hs i x σ' _ hx p
  · refine .inr (he _ ⟨a, rfl, ⟨xs, ht⟩, for_it (Walk.mono (walk_tup (K := K) (a := a) (xs := xs)) (G' := fun H' => Same H H') (fun H' s => sqt_same ht s) fun _ _ _ _ _ _ y => y) Pv h0 hG (fun i x σ' H1 H2 hi p y => ?_) hd⟩)
    obtain ⟨rfl, hx⟩ := y
    exact hs i x σ' _ hx p
theorem for_enumS {ta : TA} {g : TG} {tb : TS} {D : Ends} {σ : L2.St} {H : Hp} (Pv : Nat → L2.St → Hp → Prop) (he : ∀ Q : List V → Hp → Prop, Q [.ref a] H → ta σ H Q) (hq : Sq K H a xs) (h0 : Pv 0 σ H) (hG : ∀ i σ' H', i ≤ xs.length → Pv i σ' H' → Same H H')
    (hs : ∀ i x T σ' H', xs[i]? = some x → Pv i σ' H' → H' T = none → g (.ref T) σ' (upd H' T (.tup [.int (i : Nat), x])) fun σ2 H2 => tb { D with nx := Pv (i + 1), ct := Pv (i + 1), bk := D.nx } σ2 H2) (hd : ∀ σ' H', Pv xs.length σ' H' → D.nx σ' H') : tFor (iEnumS K ta) g tb D σ H := by
  rcases hq with hl | ht
  · refine .inl (he _ ⟨a, xs, rfl, hl, for_it (Walk.mono (walk_enum (K := K) (a := a) (xs := xs)) (G' := fun H' => Same H H') (fun H' s => sql_same hl s) fun _ _ _ _ _ _ y => y) Pv h0 hG (fun i x σ' H1 H2 hi p y => ?_) hd⟩)
    obtain ⟨T, u, z, rfl, hT, rfl, hu, hz⟩ := y
    cases hu
    exact hs i z T σ' _ hz p hT
  · refine .inr (he _ ⟨a, xs, rfl, ht, for_it (Walk.mono (walk_enumT (K := K) (a := a) (xs := xs)) (G' := fun H' => Same H H') (fun H' s => sqt_same ht s) fun _ _ _ _ _ _ y => y) Pv h0 hG (fun i x σ' H1 H2 hi p y => ?_) hd⟩)
    obtain ⟨T, u, z, rfl, hT, rfl, hu, hz⟩ := y
    cases hu
    exact hs i z T σ' _ hz p hT
/-- the same where the sequence alone stays -/
theorem sql_at {H H' : Hp} (h : SqL K H a xs) (s : ∀ o, H a = some o → H' a = some o) : SqL K H' a xs := by
  rcases h with (h | ⟨o, h⟩) | h
  · exact .inl (.inl (s _ h))
  · exact .inl (.inr ⟨o, s _ h⟩)
  · exact .inr h
theorem sqt_at {H H' : Hp} (h : SqT K H a xs) (s : ∀ o, H a = some o → H' a = some o) : SqT K H' a xs := by
  rcases h with (h | ⟨o, h⟩) | h
  · exact .inl (.inl (s _ h))
  · exact .inl (.inr ⟨o, s _ h⟩)
  · exact .inr h
theorem sq_at {H H' : Hp} (h : Sq K H a xs) (s : ∀ o, H a = some o → H' a = some o) : Sq K H' a xs := h.elim (fun h => .inl (sql_at h s)) fun h => .inr (sqt_at h s)
theorem for_seqA {te : TE} {g : TG} {tb : TS} {D : Ends} {σ : L2.St} {H H0 : Hp} (Pv : Nat → L2.St → Hp → Prop) (he : ∀ Q : VK, Q (.ref a) H → te σ H Q) (hq : Sq K H0 a xs) (h0 : Pv 0 σ H) (hG : ∀ i σ' H', i ≤ xs.length → Pv i σ' H' → ∀ o, H0 a = some o → H' a = some o)
    (hs : ∀ i x σ' H', xs[i]? = some x → Pv i σ' H' → g x σ' H' fun σ2 H2 => tb { D with nx := Pv (i + 1), ct := Pv (i + 1), bk := D.nx } σ2 H2) (hd : ∀ σ' H', Pv xs.length σ' H' → D.nx σ' H') : tFor (iSeq K te) g tb D σ H := by
  rcases hq with hl | ht
  · refine .inl (he _ ⟨a, rfl, ⟨xs, sql_at hl (hG 0 _ _ (Nat.zero_le _) h0)⟩, for_it (Walk.mono (walk_list (K := K) (a := a) (xs := xs)) (G' := fun H' => ∀ o, H0 a = some o → H' a = some o) (fun H' s => sql_at hl s) fun _ _ _ _ _ _ y => y) Pv h0 hG (fun i x σ' H1 H2 hi p y => ?_) hd⟩)
    obtain ⟨rfl, hx⟩ := y
    exact hs i x σ' _ hx p
  · refine .inr (he _ ⟨a, rfl, ⟨xs, sqt_at ht (hG 0 _ _ (Nat.zero_le _) h0)⟩, for_it (Walk.mono (walk_tup (K := K) (a := a) (xs := xs)) (G' := fun H' => ∀ o, H0 a = some o → H' a = some o) (fun H' s => sqt_at ht s) fun _ _ _ _ _ _ y => y) Pv h0 hG (fun i x σ' H1 H2 hi p y => ?_) hd⟩)
    obtain ⟨rfl, hx⟩ := y
    exact hs i x σ' _ hx p
/-- comprehensions over such a sequence -/
theorem lc_seq {te0 : TE} {g : TG} {tt : TT} {te : TE} {vs : List Nat} {σ : L2.St} {H H0 : Hp} {Q : VK} (Pv : Addr → Nat → Hp → Prop) (he : ∀ Q : VK, Q (.ref a) H → te0 σ H Q) (hq : Sq K H0 a xs) (hH : ∀ o, H0 a = some o → H a = some o) (h0 : ∀ D, H D = none → Pv D 0 (upd H D (.lst []))) (hG : ∀ D, H D = none → ∀ i H', i ≤ xs.length → Pv D i H' → ∀ o, H0 a = some o → H' a = some o)
    (hs : ∀ D, H D = none → ∀ i x H', xs[i]? = some x → Pv D i H' → g x (wipe σ vs) H' fun σ2 H2 => wipe σ2 vs = wipe σ vs ∧ tt σ2 H2 fun b H3 =>
      if b = true then te σ2 H3 fun y H4 => ∃ acc, H4 D = some (.lst acc) ∧ acc.length < sizeLine ∧ Pv D (i + 1) (upd H4 D (.lst (acc ++ [y]))) else Pv D (i + 1) H3) (hd : ∀ D, H D = none → ∀ H', Pv D xs.length H' → Q (.ref D) H') : tLc (iSeq K te0) g tt te vs σ H Q := by
  rcases hq with hl | ht
  · refine .inl (he _ ⟨a, rfl, ⟨xs, sql_at hl hH⟩, fun D hD => lc_it (Walk.mono (walk_list (K := K) (a := a) (xs := xs)) (G' := fun H' => ∀ o, H0 a = some o → H' a = some o) (fun H' s => sql_at hl s) fun _ _ _ _ _ _ y => y) (Pv D) (h0 D hD) (hG D hD) (fun i x H1 H2 hi p y => ?_) (hd D hD)⟩)
    obtain ⟨rfl, hx⟩ := y
    exact hs D hD i x _ hx p
  · refine .inr (he _ ⟨a, rfl, ⟨xs, sqt_at ht hH⟩, fun D hD => lc_it (Walk.mono (walk_tup (K := K) (a := a) (xs := xs)) (G' := fun H' => ∀ o, H0 a = some o → H' a = some o) (fun H' s => sqt_at ht s) fun _ _ _ _ _ _ y => y) (Pv D) (h0 D hD) (hG D hD) (fun i x H1 H2 hi p y => ?_) (hd D hD)⟩)
    obtain ⟨rfl, hx⟩ := y
    exact hs D hD i x _ hx p
theorem dcT_seq {te0 : TE} {g : TG} {tt : TT} {tk tv : TE} {vs : List Nat} {σ : L2.St} {H H0 : Hp} {Q : VK} (Pv : Addr → Nat → Hp → Prop) (he : ∀ Q : VK, Q (.ref a) H → te0 σ H Q) (hq : Sq K H0 a xs) (hH : ∀ o, H0 a = some o → H a = some o) (h0 : ∀ D, H D = none → Pv D 0 (upd H D (.dT []))) (hG : ∀ D, H D = none → ∀ i H', i ≤ xs.length → Pv D i H' → ∀ o, H0 a = some o → H' a = some o)
    (hs : ∀ D, H D = none → ∀ i x H', xs[i]? = some x → Pv D i H' → g x (wipe σ vs) H' fun σ2 H2 => wipe σ2 vs = wipe σ vs ∧ tt σ2 H2 fun b H3 =>
      if b = true then tk σ2 H3 fun y H4 => tv σ2 H4 fun z H5 => ∃ (kvs : List (List Key × V)) (k : List Key) (b : Addr), y = .ref b ∧ H5 b = some (.tup (k.map kV)) ∧ H5 D = some (.dT kvs) ∧ kvs.length < sizeLine ∧ Pv D (i + 1) (upd H5 D (.dT (putK kvs k z))) else Pv D (i + 1) H3) (hd : ∀ D, H D = none → ∀ H', Pv D xs.length H' → Q (.ref D) H') : tDcT (iSeq K te0) g tt tk tv vs σ H Q := by
  rcases hq with hl | ht
  · refine .inl (he _ ⟨a, rfl, ⟨xs, sql_at hl hH⟩, fun D hD => dcT_it (Walk.mono (walk_list (K := K) (a := a) (xs := xs)) (G' := fun H' => ∀ o, H0 a = some o → H' a = some o) (fun H' s => sql_at hl s) fun _ _ _ _ _ _ y => y) (Pv D) (h0 D hD) (hG D hD) (fun i x H1 H2 hi p y => ?_) (hd D hD)⟩)
    obtain ⟨rfl, hx⟩ := y
    exact hs D hD i x _ hx p
  · refine .inr (he _ ⟨a, rfl, ⟨xs, sqt_at ht hH⟩, fun D hD => dcT_it (Walk.mono (walk_tup (K := K) (a := a) (xs := xs)) (G' := fun H' => ∀ o, H0 a = some o → H' a = some o) (fun H' s => sqt_at ht s) fun _ _ _ _ _ _ y => y) (Pv D) (h0 D hD) (hG D hD) (fun i x H1 H2 hi p y => ?_) (hd D hD)⟩)
    obtain ⟨rfl, hx⟩ := y
    exact hs D hD i x _ hx p
end
/-! ### a def of the module that may raise -/
structure CalX (P : Program) (w : World) (K : PySem.W.Frag) (mg : Str → Option Value) (base : Heap) (k : Nat) (x : Str) (sp : Sp) : Prop where
  ex : ∃ (f : Addr) (fd : FuncData) (ps : List Str), FnOk P w K mg base (L2.CX P w) k f fd ps sp ∧ mg x = some (.ref f) ∧ PySem.W.keepIn K (.ref f) = true ∧ Binds K fd ps []
theorem CalX.mk0 {P : Program} {w : World} {K : PySem.W.Frag} {mg : Str → Option Value} {base : Heap} {k : Nat} {x : Str} {sp : Sp} {f : Addr} {fd : FuncData} {ps : List Str} (F : FnOk P w K mg base (L2.CX P w) k f fd ps sp) (hm : mg x = some (.ref f)) (kp : PySem.W.keepIn K (.ref f) = true) (b : Binds K fd ps []) : CalX P w K mg base k x sp :=
  ⟨f, fd, ps, F, hm, kp, b⟩
/-- a call whose error goes where W says -/
theorem pe_cX {X : Cx} {k j : Nat} {x : Str} {sp : Sp} {W : WX} {e : Expr} {es : List Expr} {t : TA} {p pos : Pos} (c : CalX X.prog X.w X.K X.mg X.base k x sp) (tk : Takes X W) (hr : Room j X.A) (hk : k ≤ j) (hg : Gl X x) (ha : PA X (e :: es) t)
    (hdb : (x == ("__debug__" : Str)) = false := by decide) (he : starEach (e :: es) X.env = (false, eval e X.env) :: starEach es X.env := by rfl) (hpl : (backTo pos (starEach es X.env)).any (·.1) = false := by rfl) :
    PE X (.Call (.Name x p) (e :: es) [] pos) (tCallS sp (WE W) t) := by
  obtain ⟨f, fd, ps, F, hm, kp, b⟩ := c.ex
  exact pe_callS F (hr.mono hk) hg hm kp b (passAt tk) ha hdb he hpl
/-- a call that raises nothing -/
theorem pe_cX0 {X : Cx} {k j : Nat} {x : Str} {sp : Sp} {e : Expr} {es : List Expr} {t : TA} {p pos : Pos} (c : CalX X.prog X.w X.K X.mg X.base k x sp) (hr : Room j X.A) (hk : k ≤ j) (hg : Gl X x) (ha : PA X (e :: es) t)
    (hdb : (x == ("__debug__" : Str)) = false := by decide) (he : starEach (e :: es) X.env = (false, eval e X.env) :: starEach es X.env := by rfl) (hpl : (backTo pos (starEach es X.env)).any (·.1) = false := by rfl) :
    PE X (.Call (.Name x p) (e :: es) [] pos) (tCall sp [] E0 t) := by
  obtain ⟨f, fd, ps, F, hm, kp, b⟩ := c.ex
  exact pe_call F (hr.mono hk) hg hm kp b .nil passL ha hdb he hpl
end Pu
namespace Pu
open PySem PySem.Spec PyProof.Rows L2
/-! what is never reached -/
theorem ps_no {X : Cx} {st : Stmt} : PS X st (fun _ _ _ => False) := ⟨fun _ _ _ _ _ _ h => h.elim⟩
theorem pe_no {X : Cx} {e : Expr} : PE X e (fun _ _ _ => False) := ⟨fun _ _ _ _ _ _ h => h.elim⟩
end Pu
namespace Pu
open PySem PySem.Spec PyProof.Rows L2
/-! the same by name, for theorems whose conclusion is a reading -/
theorem seq_asg {te : TE} {g : TG} {u : TS} {D : Ends} {σ : L2.St} {H : Hp} (h : te σ H fun x H1 => g x σ H1 (u D)) : tSeq (tAsg te g) u D σ H := h
theorem seq_st {t u : TS} {D : Ends} {σ : L2.St} {H : Hp} (h : t { D with nx := u D } σ H) : tSeq t u D σ H := h
theorem ret_of {te : TE} {D : Ends} {σ : L2.St} {H : Hp} (h : te σ H D.rt) : tRet te D σ H := h
theorem gname {i : Nat} {v : V} {σ : L2.St} {H : Hp} {k : L2.St → Hp → Prop} (h : k (σ.set i (some v)) H) : gName i v σ H k := h
end Pu
namespace Pu
open PySem PySem.Spec PyProof.Rows L2
theorem pe_cls {X : Cx} {x : Str} {C : Addr} {pos : Pos} (hg : Gl X x) (hm : X.mg x = some (.ref C)) (hd : (x == ("__debug__" : Str)) = false := by decide) : PE X (.Name x pos) (tC (.ref C)) := pe_glob hg hm (show RelV (V.ref C) (Value.ref C) from rfl) hd
end Pu

set_option Elab.async false
set_option linter.all false
set_option maxRecDepth 100000
set_option maxHeartbeats 4000000
namespace Pk
open PySem PySem.Spec PyProof.Rows L2 Pu
def topS (i : Nat) : Stmt := PySem.Challenge.pw_pileups_k47_renamings.main.body.getD i (.Pass ⟨0, 0, 0, 0⟩)
structure Txt (mg : Str → Option Value) : Prop where
  m_all : mg "all" = none
  m_bool : mg "bool" = none
  m_dict : mg "dict" = none
  m_enumerate : mg "enumerate" = none
  m_int : mg "int" = none
  m_isinstance : mg "isinstance" = none
  m_len : mg "len" = none
  m_list : mg "list" = none
  m_max : mg "max" = none
  m_min : mg "min" = none
  m_range : mg "range" = none
  m_sorted : mg "sorted" = none
  m_str : mg "str" = none
  m_tuple : mg "tuple" = none
  m_zip : mg "zip" = none
  m_NOTHING : ∃ t, mg "NOTHING" = some (.str ("" : Str) t)
  m_LETTERS : ∃ t, mg "LETTERS" = some (.str ("abcdefghijklmnopqrstuvwxyz" : Str) t)
  m_LONGEST_NAME : ∃ t, mg "LONGEST_NAME" = some (.int 8 t)
  m_BILLION : ∃ t, mg "BILLION" = some (.int 1000000000 t)
  m_MOST_EVENTS : ∃ t, mg "MOST_EVENTS" = some (.int 8 t)
  m_MOST_TIES : ∃ t, mg "MOST_TIES" = some (.int 60 t)
abbrev s_is_integer : Stmt := topS 24
theorem sc_is_integer : FnScope ["value"] ["value"] (defScope s_is_integer) := ⟨rfl, rfl, rfl, by decide +kernel, rfl, by decide +kernel, by decide +kernel⟩
abbrev s_is_count : Stmt := topS 25
theorem sc_is_count : FnScope ["value"] ["value"] (defScope s_is_count) := ⟨rfl, rfl, rfl, by decide +kernel, rfl, by decide +kernel, by decide +kernel⟩
abbrev s_is_name : Stmt := topS 26
theorem sc_is_name : FnScope ["value", "letter"] ["value"] (defScope s_is_name) := ⟨rfl, rfl, rfl, by decide +kernel, rfl, by decide +kernel, by decide +kernel⟩
abbrev s_law_cell : Stmt := topS 45
theorem sc_law_cell : FnScope ["_law_script", "_law_k"] ["_law_script", "_law_k"] (defScope s_law_cell) := ⟨rfl, rfl, rfl, by decide +kernel, rfl, by decide +kernel, by decide +kernel⟩
abbrev s_law_box : Stmt := topS 46
theorem sc_law_box : FnScope ["_law_cell_here"] ["_law_cell_here"] (defScope s_law_box) := ⟨rfl, rfl, rfl, by decide +kernel, rfl, by decide +kernel, by decide +kernel⟩
abbrev s_law_take : Stmt := topS 47
theorem sc_law_take : FnScope ["_law_box_here", "_law_many", "_law_digit", "_law_number"] ["_law_box_here", "_law_many"] (defScope s_law_take) := ⟨rfl, rfl, rfl, by decide +kernel, rfl, by decide +kernel, by decide +kernel⟩

/-! ### kinds -/
def clss : List String := ["int", "bool", "str", "list", "tuple", "dict"]
def kinds : List String := ["NoneType", "bool", "int", "str", "list", "tuple", "dict"]
def isk (a b : String) : Bool := a == b || (a == "bool" && b == "int")
theorem kit_all : ∀ a ∈ kinds, ∀ b ∈ clss, kitB a b = some (isk a b) := by decide +kernel
theorem kitx {K : PySem.W.Frag} {T c : String} (hk : T ∈ kinds) (hc : c ∈ clss) : PySem.W.kitOne K (.type T) (.type c) = some (isk T c) := kit_ty (kit_all T hk c hc)
theorem kity {K : PySem.W.Frag} {T c : String} (b : Bool) (hk : T ∈ kinds) (hc : c ∈ clss) (e : isk T c = b) : PySem.W.kitOne K (.type T) (.type c) = some b := by rw [← e]; exact kitx hk hc
abbrev abc : Str := "abcdefghijklmnopqrstuvwxyz"
def nameOk (s : Str) : Bool := decide (1 ≤ s.length ∧ s.length ≤ 8) && s.cps.toList.all fun c => decide (c ∈ abc.cps.toList)
theorem nameOk_of {s : Str} (h1 : 1 ≤ s.length) (h2 : s.length ≤ 8) : nameOk s = s.cps.toList.all fun c => decide (c ∈ abc.cps.toList) := by
  unfold nameOk
  rw [decide_eq_true (And.intro h1 h2), Bool.true_and]
theorem nameOk_not {s : Str} (h : ¬ (1 ≤ s.length ∧ s.length ≤ 8)) : nameOk s = false := by
  unfold nameOk
  rw [decide_eq_false h, Bool.false_and]
def kindsN : List String := ["NoneType", "bool", "int", "list", "tuple", "dict"]
section
variable {P : Program} {w : World} {K : PySem.W.Frag} {mg : Str → Option Value} {base : Heap}
/-! ### is_integer -/
def spIsInt (K : PySem.W.Frag) : Sp := fun vs H Q _ => ∃ (x : V) (T : String), vs = [x] ∧ TyX K H x (.type T) ∧ T ∈ kinds ∧ Q (.bl (T == "int")) H
theorem ok_is_integer {f : Addr} {fd : FuncData} (F : Fun K "is_integer" "is_integer" s_is_integer f fd) (T : Txt mg) : FnOk P w K mg base CX0 1 f fd ["value"] (spIsInt K) := by
  have nd := sc_is_integer.nd
  refine F.ok sc_is_integer (fun vs H Q E h => ?_) (fun cdv A outer s H vs Q E hr h => ?_)
  · obtain ⟨x, T, rfl, _⟩ := h
    rfl
  · obtain ⟨x, t, rfl, hT, hk, q⟩ := h
    refine ⟨_, (pss_one (ps_ret (pe_and (pe_callB (isiK K) (by rfl) T.m_isinstance PyProof.Rows.boot_isinstance (pa_cons (pv 0) (pa_cons (pe_bltn (v := .ty "int") rfl T.m_int PyProof.Rows.boot_int rfl) pa_nil))) (pe_one (pe_not (pe_callB (isiK K) (by rfl) T.m_isinstance PyProof.Rows.boot_isinstance (pa_cons (pv 0) (pa_cons (pe_bltn (v := .ty "bool") rfl T.m_bool PyProof.Rows.boot_bool rfl) pa_nil)))))))), ?_⟩
    refine ⟨x, rfl, _, _, _, _, _, rfl, .ty _, hT, kitx hk (by decide), _, rfl, ite2 (fun e => ?_) (fun e => ?_)⟩
    · refine ⟨x, rfl, _, _, _, _, _, rfl, .ty _, hT, kitx hk (by decide), _, rfl, ?_⟩
      rw [show (!isk t "bool") = (t == "int") from (show ∀ t ∈ kinds, isk t "int" = true → (!isk t "bool") = (t == "int") by decide) t hk e]
      exact q
    · rw [show (false : Bool) = (t == "int") from (show ∀ t ∈ kinds, ¬ isk t "int" = true → false = (t == "int") by decide) t hk e]
      exact q
/-! ### is_count -/
def spIsCount (K : PySem.W.Frag) : Sp := fun vs H Q _ => (∃ i : Int, vs = [.int i] ∧ Q (.bl (decide (0 ≤ i))) H) ∨ ∃ (x : V) (T : String), vs = [x] ∧ TyX K H x (.type T) ∧ T ∈ kinds ∧ T ≠ "int" ∧ Q (.bl false) H
theorem ok_is_count {f : Addr} {fd : FuncData} (F : Fun K "is_count" "is_count" s_is_count f fd) (T : Txt mg) (cis_integer : Cal P w K mg base 1 "is_integer" (spIsInt K) []) : FnOk P w K mg base CX0 2 f fd ["value"] (spIsCount K) := by
  have nd := sc_is_count.nd
  refine F.ok sc_is_count (fun vs H Q E h => ?_) (fun cdv A outer s H vs Q E hr h => ?_)
  · rcases h with ⟨_, rfl, _⟩ | ⟨_, _, rfl, _⟩ <;> rfl
  · refine ⟨_, (pss_one (ps_ret (pe_and (pe_c cis_integer hr (by decide) rfl (pa_cons (pv 0) pa_nil)) (pe_one (pe_cmpR op_ge (pv 0) pe_int (by rfl)))))), ?_⟩
    rcases h with ⟨i, rfl, q⟩ | ⟨x, t, rfl, hT, hk, hn, q⟩
    · exact ⟨_, rfl, _, "int", rfl, .base (.int i), by decide, _, rfl, ite2 (fun _ => ⟨_, rfl, _, _, rfl, rfl, q⟩) (fun e => absurd rfl e)⟩
    · refine ⟨_, rfl, _, t, rfl, hT, hk, _, rfl, ite2 (fun e => absurd (eq_of_beq e) hn) (fun _ => q)⟩
/-! ### is_name -/
def spIsName (K : PySem.W.Frag) : Sp := fun vs H Q _ => (∃ s : Str, vs = [.str s] ∧ s.length ≤ 1000 ∧ ∀ H', Same H H' → Q (.bl (nameOk s)) H') ∨ ∃ (x : V) (T : String), vs = [x] ∧ TyX K H x (.type T) ∧ T ∈ kindsN ∧ Q (.bl false) H
theorem ok_is_name {f : Addr} {fd : FuncData} (F : Fun K "is_name" "is_name" s_is_name f fd) (T : Txt mg) : FnOk P w K mg base CX0 1 f fd ["value"] (spIsName K) := by
  have nd := sc_is_name.nd
  refine F.ok sc_is_name (fun vs H Q E h => ?_) (fun cdv A outer s H vs Q E hr h => ?_)
  · rcases h with ⟨_, rfl, _⟩ | ⟨_, _, rfl, _⟩ <;> rfl
  · refine ⟨_, (pss_cons (ps_if (PW.pt (pw_or (pt_not (pt_val (pe_callB (isiK K) (by rfl) T.m_isinstance PyProof.Rows.boot_isinstance (pa_cons (pv 0) (pa_cons (pe_bltn (v := .ty "str") rfl T.m_str PyProof.Rows.boot_str rfl) pa_nil))))) (pw_or1 (pt_not (pt_chain op_le op_le pe_int (pe_callB (lenK K) (by rfl) T.m_len PySem.boot_len (pa_cons (pv 0) pa_nil)) (pe_gi rfl T.m_LONGEST_NAME))))))
      (pss_one (ps_ret pe_bl)) pss_nil)
      (pss_one (ps_ret (pe_callB (cr_all rfl) (by rfl) T.m_all PyProof.Rows.boot_all (pa_cons (pe_lc (own := [("letter", 1)]) (g := gName 1) (tt := tYes) rfl nd (pi_str (pv 0)) (blkOk_by (N := ["value", "letter"]) (sc := defScope s_is_name) (by decide +kernel)) (fun _ _ _ _ _ => pg_name (i := 1) nd rfl (Or.inl rfl)) (fun _ _ _ _ _ => pts_nil) (fun _ _ _ _ _ => (pe_cmpR (oIn K) (pv 1) (pe_gs rfl T.m_LETTERS) (by rfl)))) pa_nil))))), ?_⟩
    rcases h with ⟨z, rfl, hz, q⟩ | ⟨x, t, rfl, hT, hk, q⟩
    · refine ⟨_, rfl, _, _, _, _, _, rfl, .ty _, .base (.str z), kity true (by decide) (by decide) rfl, _, rfl, _, rfl, .inr ⟨z, rfl, sz _ (by omega), _, _, rfl, rfl, _, rfl, ite2 (fun e1 => ⟨_, _, rfl, rfl, _, rfl, ite2 (fun e2 => ?_) (fun e2 => ?_)⟩) (fun e1 => ⟨_, rfl, ?_⟩)⟩⟩
      · have e3 : ¬ ((z.length : Int) ≤ 8) := fun hh => by
          rw [decide_eq_true hh] at e2
          exact absurd e2 (by decide)
        have := q H (Same.refl H)
        rw [nameOk_not (by omega)] at this
        exact this
      · have e3 : ((z.length : Int) ≤ 8) := by
          by_cases hh : ((z.length : Int) ≤ 8)
          · exact hh
          · rw [decide_eq_false hh] at e2
            exact absurd rfl e2
        have e4 : (1 : Int) ≤ z.length := of_decide_eq_true e1
        have hn : nameOk z = _ := nameOk_of (s := z) (by omega) (by omega)
        refine ⟨_, rfl, z, rfl, fun D hD => lc_it walk_str (fun i H' => Same H H' ∧ H' D = some (.lst (((z.cps.toList.take i).map fun c => decide (c ∈ abc.cps.toList)).map V.bl))) ⟨same_upd hD, upd_same⟩ (fun _ _ _ _ => trivial) (fun i x H1 H2 hi p y => ?_) (fun H1 p => ?_)⟩
        · obtain ⟨rfl, c, hc, rfl⟩ := y
          refine ⟨rfl, _, rfl, .inl ⟨c, _, rfl, rfl, _, p.2, ?_, ?_, ?_⟩⟩
          · have h9 : z.cps.size = z.length := rfl
            rw [List.length_map, List.length_map, List.length_take, Array.length_toList]
            exact small1000 (by omega)
          · intro b o hb
            rw [upd_ne (ne_of_none hb hD)]
            exact p.1 _ _ hb
          · rw [upd_same, List.take_add_one, show z.cps.toList[i]? = some c by rw [Array.getElem?_toList]; exact hc, List.map_append, List.map_append]
            rfl
        · refine ⟨D, _, rfl, .inl (.inl p.2), ?_⟩
          have hl : z.cps.toList.take z.cps.size = z.cps.toList := List.take_of_length_le (by rw [Array.length_toList]; exact Nat.le_refl _)
          rw [hl, List.all_map]
          have := q H1 p.1
          rw [hn] at this
          exact this
      · have e3 : ¬ ((1 : Int) ≤ z.length) := fun hh => e1 (decide_eq_true hh)
        have := q H (Same.refl H)
        rw [nameOk_not (by omega)] at this
        exact this
    · have hk2 : t ∈ kinds ∧ isk t "str" = false := (show ∀ t ∈ kindsN, t ∈ kinds ∧ isk t "str" = false by decide) t hk
      exact ⟨_, rfl, _, _, _, _, _, rfl, .ty _, hT, kity false hk2.1 (by decide) hk2.2, _, rfl, q⟩

/-! ### the law's numbers -/
theorem ok_cell {f : Addr} {fd : FuncData} (F : Fun K "_law_cell" "_law_cell" s_law_cell f fd) (T : Txt mg) : FnOk P w K mg base CX0 1 f fd ["_law_script", "_law_k"] (Pu.spCell K) := by
  have nd := sc_law_cell.nd
  refine F.ok sc_law_cell (fun vs H Q E h => ?_) (fun cdv A outer s H vs Q E hr h => ?_)
  · obtain ⟨a, ns, k, rfl, _⟩ := h
    rfl
  · obtain ⟨a, ns, k, rfl, hS, q⟩ := h
    refine ⟨_, (pss_cons (ps_if (pt_cmpR op_lt (pv 1) (pe_callB (lenK K) (by rfl) T.m_len PySem.boot_len (pa_cons (pv 0) pa_nil)) (by rfl))
      (pss_one (ps_ret (pe_ix (ixL K) (pv 0) (pv 1) (fun _ _ => rfl)))) pss_nil)
      (pss_one (ps_ret (pe_op oAdd (pe_op op_mul pe_int (pv 1)) pe_int)))), ?_⟩
    refine ⟨_, rfl, _, rfl, .inl ⟨a, _, rfl, .inl hS, _, _, rfl, rfl, _, rfl, ite2 (fun e => ?_) (fun e => ?_)⟩⟩
    · have hk : k < ns.length := by
        have := of_decide_eq_true e
        rw [List.length_map] at this
        omega
      refine ⟨_, rfl, _, rfl, a, _, _, .int ns[k], rfl, rfl, hS, ?_, q _⟩
      exact atI_nat (by rw [List.getElem?_map, List.getElem?_eq_getElem hk]; rfl)
    · exact ⟨_, rfl, _, _, rfl, rfl, .inl ⟨by decide, by decide⟩, .inl ⟨_, _, rfl, rfl, q _⟩⟩
theorem ok_box {f : Addr} {fd : FuncData} (F : Fun K "_law_box" "_law_box" s_law_box f fd) (T : Txt mg) : FnOk P w K mg base CX0 1 f fd ["_law_cell_here"] spBox := by
  have nd := sc_law_box.nd
  refine F.ok sc_law_box (fun vs H Q E h => ?_) (fun cdv A outer s H vs Q E hr h => ?_)
  · obtain ⟨i, rfl, _⟩ := h
    rfl
  · obtain ⟨i, rfl, q⟩ := h
    refine ⟨_, (pss_one (ps_ret (pe_lst (pa_cons (pe_callB (call_max2 rfl) (by rfl) T.m_max PyProof.Rows.boot_max (pa_cons pe_int (pa_cons (pe_op op_sub (pv 0) (pe_op op_pow pe_int pe_int)) pa_nil))) (pa_cons (pe_op op_mod (pv 0) pe_int) (pa_cons pe_int pa_nil)))))), ?_⟩
    refine ⟨_, rfl, _, _, rfl, rfl, ⟨by decide, by decide, by decide⟩, _, _, rfl, rfl, _, _, rfl, _, rfl, _, _, rfl, rfl, (by show (0 : Int) < 2147483629; decide), sz 3, fun p hp => ?_⟩
    refine q p _ hp ⟨_, _, _, upd_same, ?_, ?_, ?_, ?_, ?_⟩ fun a ha => upd_ne ha
    · split <;> omega
    · exact Int.emod_nonneg _ (by decide)
    · have := Int.emod_lt_of_pos i (show (0 : Int) < 2147483629 by decide)
      omega
    · decide
    · decide
theorem ok_take {f : Addr} {fd : FuncData} (F : Fun K "_law_take" "_law_take" s_law_take f fd) (T : Txt mg) : FnOk P w K mg base CX0 1 f fd ["_law_box_here", "_law_many"] spTake := by
  have nd := sc_law_take.nd
  refine F.ok sc_law_take (fun vs H Q E h => ?_) (fun cdv A outer s H vs Q E hr h => ?_)
  · obtain ⟨b, m, n, rfl, _⟩ := h
    rfl
  · obtain ⟨b, m, n, rfl, hm, hm2, hn, ⟨x, y, z, hB, hx, hy, hy2, hz, hzn⟩, q⟩ := h
    refine ⟨_, (pss_cons (ps_if (pt_cmpR op_gt (pe_ix (ixL K) (pv 0) pe_int (fun _ _ => rfl)) pe_int (by rfl))
      (pss_cons (ps_set (i := 2) nd rfl (Or.inl rfl) (pe_op op_mod (pe_ix (ixL K) (pv 0) pe_int (fun _ _ => rfl)) (pv 1)))
      (pss_cons (ps_asg (pe_op op_fdivW (pe_ix (ixL K) (pv 0) pe_int (fun _ _ => rfl)) (pv 1)) (pg_sub (pv 0) pe_int set_list))
      (pss_one (ps_ret (pv 2))))) pss_nil)
      (pss_cons (ps_asg (pe_op oAdd (pe_ix (ixL K) (pv 0) pe_int (fun _ _ => rfl)) pe_int) (pg_sub (pv 0) pe_int set_list))
      (pss_cons (ps_set (i := 3) nd rfl (Or.inl rfl) (pe_op op_mod (pe_op op_pow (pe_op oAdd (pe_op oAdd (pe_ix (ixL K) (pv 0) pe_int (fun _ _ => rfl)) (pe_op op_mul pe_int (pe_ix (ixL K) (pv 0) pe_int (fun _ _ => rfl)))) pe_int) pe_int) pe_int))
      (pss_cons (ps_set (i := 3) nd rfl (Or.inl rfl) (pe_op op_mod (pe_op op_pow (pe_op oAdd (pv 3) (pe_op op_mul pe_int (pe_ix (ixL K) (pv 0) pe_int (fun _ _ => rfl)))) pe_int) pe_int))
      (pss_one (ps_ret (pe_op op_mod (pe_op op_fdiv (pv 3) pe_int) (pv 1)))))))), ?_⟩
    refine ⟨_, rfl, _, _, _, _, rfl, rfl, .inl (.inl hB), rfl, _, _, rfl, rfl, _, rfl, ite2 (fun e => ?_) (fun e => ?_)⟩
    · refine ⟨_, rfl, _, _, _, _, rfl, rfl, .inl (.inl hB), rfl, _, rfl, _, _, rfl, rfl, hm, ?_⟩
      refine ⟨_, rfl, _, _, _, _, rfl, rfl, .inl (.inl hB), rfl, _, rfl, _, _, rfl, rfl, (wide_div hm (show m.natAbs < 2 ^ 140 by omega) (by decide) (by decide)), _, rfl, _, _, _, _, rfl, rfl, hB, rfl, ?_⟩
      refine ⟨_, rfl, q _ _ (Int.emod_nonneg _ (by omega)) (Int.emod_lt_of_pos _ hm) ⟨_, _, _, upd_same, Int.ediv_nonneg hx (by omega), hy, hy2, hz, by omega⟩ Ext.at⟩
    · have hz2 : (0 : Int) ≤ z + 1 ∧ z + 1 ≤ 1000001 := by omega
      refine ⟨_, rfl, _, _, _, _, rfl, rfl, .inl (.inl hB), rfl, .inl ⟨_, _, rfl, rfl, _, rfl, _, _, _, _, rfl, rfl, hB, rfl, ?_⟩⟩
      have hB1 : (upd H b (.lst ([V.int x, V.int y, V.int z].set 2 (.int (z + 1))))) b = some (.lst [.int x, .int y, .int (z + 1)]) := upd_same
      have n1 : (0 : Int) ≤ (y + 7919 * (z + 1) + 43) := by omega
      have n2 : (y + 7919 * (z + 1) + 43) < 18446744073709551616 := by omega
      refine ⟨_, rfl, _, _, _, _, rfl, rfl, .inl (.inl hB1), rfl, _, rfl, _, _, _, _, rfl, rfl, .inl (.inl hB1), rfl, _, _, rfl, rfl, .inl ⟨by decide, by decide⟩, .inl ⟨_, _, rfl, rfl, .inl ⟨_, _, rfl, rfl,
        _, _, rfl, rfl, ⟨by decide, by decide, ?_⟩, _, _, rfl, rfl, (by show (0 : Int) < 2147483647; decide), ?_⟩⟩⟩
      · show (y + 7919 * (z + 1) + 43).natAbs < 2 ^ 64
        omega
      · have p0 : (0 : Int) ≤ ((y + 7919 * (z + 1) + 43) ^ (5 : Int).toNat) % 2147483647 := Int.emod_nonneg _ (by decide)
        have p1 : ((y + 7919 * (z + 1) + 43) ^ (5 : Int).toNat) % 2147483647 < 2147483647 := Int.emod_lt_of_pos _ (by decide)
        have e1 : ∀ g : Int, 0 ≤ g → g < 2147483647 → (g + 104729 * (z + 1)).natAbs < 2 ^ 64 := by
          intro g h0 h1
          omega
        refine ⟨_, rfl, _, rfl, _, _, _, _, rfl, rfl, .inl (.inl hB1), rfl, _, _, rfl, rfl, .inl ⟨by decide, by decide⟩, .inl ⟨_, _, rfl, rfl, _, _, rfl, rfl, ⟨by decide, by decide, e1 _ p0 p1⟩, _, _, rfl, rfl, (by show (0 : Int) < 2147483587; decide), ?_⟩⟩
        refine ⟨_, rfl, _, _, rfl, rfl, ⟨by decide, by decide⟩, _, rfl, _, _, rfl, rfl, hm, ?_⟩
        exact q _ _ (Int.emod_nonneg _ (by omega)) (Int.emod_lt_of_pos _ hm) ⟨_, _, _, hB1, hx, hy, hy2, hz2.1, by omega⟩ Ext.at

end
end Pk

set_option Elab.async false
set_option linter.all false
set_option maxRecDepth 100000
set_option maxHeartbeats 4000000
namespace Pk
open PySem PySem.Spec PyProof.Rows L2 Pu
/-! ### plans as data -/
structure PlanD where
  evs : List Str
  ties : List (Str × Str × Int)
  caps : List (Str × Int)
structure EvsOk (es : List Str) : Prop where
  lo : 1 ≤ es.length
  hi : es.length ≤ 8
  nm : ∀ e ∈ es, nameOk e = true
  nd : es.Nodup
structure PlanOk (d : PlanD) : Prop where
  evs : EvsOk d.evs
  tl : d.ties.length ≤ 60
  tin : ∀ t ∈ d.ties, t.1 ∈ d.evs ∧ t.2.1 ∈ d.evs ∧ 0 ≤ t.2.2
  cin : ∀ c ∈ d.caps, c.1 ∈ d.evs ∧ 0 ≤ c.2
  cnd : (d.caps.map (·.1)).Nodup
  up : ∃ ρ : Str → Nat, ∀ t ∈ d.ties, t.2.2 = 0 → ρ t.1 < ρ t.2.1
/-- the row of a tie -/
abbrev rowV (t : Str × Str × Int) : List V := [.str t.1, .str t.2.1, .int t.2.2]
def TiesAt (H : Hp) (ts : List Addr) (ties : List (Str × Str × Int)) : Prop := Paired (fun a t => H a = some (.tup (rowV t))) ts ties
def capsV (cs : List (Str × Int)) : List (Key × V) := cs.map fun c => (.inr c.1, .int c.2)
theorem TiesAt.same {H H' : Hp} {ts : List Addr} {ties : List (Str × Str × Int)} (h : TiesAt H ts ties) (s : Same H H') : TiesAt H' ts ties := by
  unfold TiesAt at *
  induction h with
  | nil => exact .nil
  | cons r _ ih => exact .cons (s _ _ r) ih
theorem TiesAt.get {H : Hp} {ts : List Addr} {ties : List (Str × Str × Int)} (h : TiesAt H ts ties) : ∀ {i : Nat} {x : V}, (ts.map V.ref)[i]? = some x → ∃ a t, x = .ref a ∧ t ∈ ties ∧ ties[i]? = some t ∧ H a = some (.tup (rowV t)) := by
  unfold TiesAt at h
  induction h with
  | nil => intro i x e; simp at e
  | @cons a t as bs r _ ih =>
    intro i x e
    cases i with
    | zero =>
      have e : some (V.ref a) = some x := e
      cases e
      exact ⟨a, t, rfl, List.mem_cons_self .., rfl, r⟩
    | succ i =>
      obtain ⟨a', t', h1, h2, h3, h4⟩ := ih (i := i) (x := x) e
      exact ⟨a', t', h1, List.mem_cons_of_mem _ h2, h3, h4⟩
theorem TiesAt.length {H : Hp} {ts : List Addr} {ties : List (Str × Str × Int)} (h : TiesAt H ts ties) : ts.length = ties.length := Paired.length h
theorem flat_strs (es : List Str) : (es.map V.str).all flatV = true := by
  rw [List.all_map, List.all_eq_true]
  intro _ _
  rfl
theorem inV_strs (e : Str) (es : List Str) : inV (.str e) (es.map V.str) = decide (e ∈ es) := by
  unfold inV
  rw [List.any_map, Bool.eq_iff_iff, List.any_eq_true, decide_eq_true_iff]
  constructor
  · rintro ⟨y, hy, h⟩
    have h : (y == e) = true := h
    rw [beq_iff_eq] at h
    exact h ▸ hy
  · intro h
    exact ⟨e, h, (show (e == e) = true from beq_self_eq_true _)⟩
abbrev s_need_events : Stmt := topS 31
theorem sc_need_events : FnScope ["events", "index", "event"] ["events"] (defScope s_need_events) := ⟨rfl, rfl, rfl, by decide +kernel, rfl, by decide +kernel, by decide +kernel⟩
abbrev s_need_event : Stmt := topS 32
theorem sc_need_event : FnScope ["events", "event"] ["events", "event"] (defScope s_need_event) := ⟨rfl, rfl, rfl, by decide +kernel, rfl, by decide +kernel, by decide +kernel⟩
abbrev s_need_tie : Stmt := topS 33
theorem sc_need_tie : FnScope ["events", "tie", "earlier", "later", "lag"] ["events", "tie"] (defScope s_need_tie) := ⟨rfl, rfl, rfl, by decide +kernel, rfl, by decide +kernel, by decide +kernel⟩
abbrev s_need_ties : Stmt := topS 34
theorem sc_need_ties : FnScope ["events", "ties", "tie"] ["events", "ties"] (defScope s_need_ties) := ⟨rfl, rfl, rfl, by decide +kernel, rfl, by decide +kernel, by decide +kernel⟩
abbrev s_need_limits : Stmt := topS 35
theorem sc_need_limits : FnScope ["events", "limits", "event"] ["events", "limits"] (defScope s_need_limits) := ⟨rfl, rfl, rfl, by decide +kernel, rfl, by decide +kernel, by decide +kernel⟩
abbrev s_ringed : Stmt := topS 36
theorem sc_ringed : FnScope ["events", "ties", "reached", "middle", "first", "before", "last", "beyond", "earlier", "later", "lag", "event"] ["events", "ties"] (defScope s_ringed) := ⟨rfl, rfl, rfl, by decide +kernel, rfl, by decide +kernel, by decide +kernel⟩

section
variable {P : Program} {w : World} {K : PySem.W.Frag} {mg : Str → Option Value} {base : Heap}
/-! ### events that are right -/
theorem ty_sql {H : Hp} {a : Addr} {xs : List V} (h : SqL K H a xs) : TyX K H (.ref a) (.type "list") := by
  rcases h with (h | ⟨o, h⟩) | ⟨o, its, n, h, hc, _⟩
  · exact .base (.lst h)
  · exact .base (.frz h)
  · exact .kList h hc
theorem ty_sqt {H : Hp} {a : Addr} {xs : List V} (h : SqT K H a xs) : TyX K H (.ref a) (.type "tuple") := by
  rcases h with (h | ⟨o, h⟩) | ⟨o, its, n, h, hc, _⟩
  · exact .base (.tup h)
  · exact .fTuple h
  · exact .kTuple h hc
theorem kit2 {t c d : String} (b : Bool) (ht : t ∈ kinds) (hc : c ∈ clss) (hd : d ∈ clss) (e : (isk t c || isk t d) = b) : PySem.W.kitAny K (.type t) [.type c, .type d] = some b := by
  subst e
  unfold PySem.W.kitAny
  rw [kitx ht hc]
  cases h1 : isk t c with
  | true => rfl
  | false =>
    show PySem.W.kitAny K (.type t) [.type d] = _
    unfold PySem.W.kitAny
    rw [kitx ht hd]
    cases h2 : isk t d with
    | true => rfl
    | false => rfl
/-- a list or a tuple: its kind -/
theorem ty_sq {H : Hp} {a : Addr} {xs : List V} (h : Sq K H a xs) : ∃ t : String, TyX K H (.ref a) (.type t) ∧ PySem.W.kitAny K (.type t) [.type "list", .type "tuple"] = some true := by
  rcases h with h | h
  · exact ⟨"list", ty_sql h, kit2 true (by decide) (by decide) (by decide) (by decide)⟩
  · exact ⟨"tuple", ty_sqt h, kit2 true (by decide) (by decide) (by decide) (by decide)⟩
theorem cut_to (es : List Str) (i : Nat) (hi : i ≤ es.length) : cutV (es.map V.str) none (some (i : Int)) = (es.take i).map V.str := by
  unfold cutV
  rw [HT.sIx_none, HT.sIx_nat, List.length_map, Nat.min_eq_left hi, List.drop_zero, Nat.sub_zero, List.map_take]
theorem nameOk_len {s : Str} (h : nameOk s = true) : 1 ≤ s.length ∧ s.length ≤ 8 := by
  by_cases hh : 1 ≤ s.length ∧ s.length ≤ 8
  · exact hh
  · rw [nameOk_not hh] at h
    cases h
def spEvents (K : PySem.W.Frag) : Sp := fun vs H Q _ => ∃ (a : Addr) (es : List Str), vs = [.ref a] ∧ Sq K H a (es.map V.str) ∧ EvsOk es ∧ ∀ H', Same H H' → Q .non H'
theorem ok_need_events {f : Addr} {fd : FuncData} (F : Fun K "need_events" "need_events" s_need_events f fd) (T : Txt mg) (cis_name : Cal P w K mg base 1 "is_name" (spIsName K) []) : FnOk P w K mg base CX0 2 f fd ["events"] (spEvents K) := by
  have nd := sc_need_events.nd
  refine F.ok sc_need_events (fun vs H Q E h => ?_) (fun cdv A outer s H vs Q E hr h => ?_)
  · obtain ⟨_, _, rfl, _⟩ := h
    rfl
  · obtain ⟨a, es, rfl, hq, ho, q⟩ := h
    refine ⟨_, (pss_cons (ps_if (PW.pt (pw_or (pt_not (pt_val (pe_callB (isiTK K) (by rfl) T.m_isinstance PyProof.Rows.boot_isinstance (pa_cons (pv 0) (pa_cons (pe_tup (pa_cons (pe_bltn (v := .ty "list") rfl T.m_list PyProof.Rows.boot_list rfl) (pa_cons (pe_bltn (v := .ty "tuple") rfl T.m_tuple PyProof.Rows.boot_tuple rfl) pa_nil))) pa_nil))))) (pw_or1 (pt_not (pt_chain op_le op_le pe_int (pe_callB (lenK K) (by rfl) T.m_len PySem.boot_len (pa_cons (pv 0) pa_nil)) (pe_gi rfl T.m_MOST_EVENTS))))))
      (pss_one ps_no) pss_nil)
      (pss_one (ps_for PassesOwn.never rfl (pi_enumS K rfl T.m_enumerate (pa_cons (pv 0) pa_nil)) (pg_tup rfl (pgs_cons (pg_name (i := 1) nd rfl (Or.inl rfl)) (pgs_cons (pg_name (i := 2) nd rfl (Or.inl rfl)) pgs_nil)))
      (pss_cons (ps_if (pt_not (pt_val (pe_c cis_name hr (by decide) rfl (pa_cons (pv 2) pa_nil))))
      (pss_one ps_no) pss_nil)
      (pss_one (ps_if (pt_cmpR (oIn K) (pv 2) (pe_slice (slSeq K) (pv 0) po_none (po_some (pv 1))) (by rfl))
      (pss_one ps_no) pss_nil)))))), ?_⟩
    refine ⟨_, rfl, sz 2, fun T0 n0 => ?_⟩
    have s0 : Same H (upd H T0 (.tup [.ty "list", .ty "tuple"])) := same_upd n0
    have hT : (upd H T0 (.tup [.ty "list", .ty "tuple"])) T0 = some (.tup [.ty "list", .ty "tuple"]) := upd_same
    revert s0 hT
    generalize upd H T0 (.tup [.ty "list", .ty "tuple"]) = H0
    intro s0 hT
    have hq0 := sq_same hq s0
    obtain ⟨t, hty, hk⟩ := ty_sq hq0
    have l1 := ho.lo
    have l2 := ho.hi
    refine ⟨_, T0, _, _, _, true, rfl, hT, .cons (.ty _) (.cons (.ty _) .nil), hty, hk, _, rfl, _, rfl, .inl ⟨a, _, rfl, hq0, _, _, rfl, rfl, _, rfl, ite2 (fun e1 => ⟨_, _, rfl, rfl, _, rfl, ite2 (fun e2 => ?_) (fun e2 => ?_)⟩) (fun e1 => ?_)⟩⟩
    · rw [List.length_map] at e2
      have e3 : ((es.length : Int) ≤ 8) := by omega
      rw [decide_eq_true e3] at e2
      exact absurd e2 (by decide)
    · refine for_enumS (fun i σ H' => Same H0 H' ∧ ∃ v1 v2, σ = [some (.ref a), v1, v2]) (fun Q hQ => ⟨_, rfl, hQ⟩) hq0 ⟨Same.refl _, _, _, rfl⟩ (fun _ _ _ _ p => p.1) (fun i x T1 σ H1 hx p n1 => ?_) (fun σ H1 p => q _ (Same.trans s0 p.1))
      obtain ⟨s1, v1, v2, rfl⟩ := p
      have hi : i < es.length := by
        rw [← List.length_map (f := V.str)]
        exact (List.getElem?_eq_some_iff.mp hx).1
      have hxe : x = .str es[i] := by
        rw [List.getElem?_map, List.getElem?_eq_getElem hi] at hx
        cases hx
        rfl
      subst hxe
      have s2 : Same H0 (upd H1 T1 (.tup [.int (i : Nat), .str es[i]])) := Same.trans s1 (same_upd n1)
      have hn := ho.nm es[i] (List.getElem_mem hi)
      refine ⟨T1, _, rfl, .inl (.inl upd_same), rfl, _, _, rfl, _, _, rfl, rfl, ?_⟩
      refine ⟨_, rfl, .inl ⟨es[i], rfl, by have := nameOk_len hn; omega, fun H2 s3 => ⟨_, rfl, ite2 (fun e => ?_) (fun _ => ?_)⟩⟩⟩
      · rw [hn] at e
        exact absurd e (by decide)
      have s4 := Same.trans s2 s3
      have fin : ∀ (y : V) (p : Addr), (Sq K (upd H2 p (.lst ((es.take i).map V.str))) p ((es.take i).map V.str)) := fun _ p => .inl (.inl (.inl upd_same))
      have hno : inV (.str es[i]) ((es.take i).map V.str) = false := by
        rw [inV_strs]
        refine decide_eq_false fun hm => ?_
        obtain ⟨j, hj, e⟩ := List.getElem_of_mem hm
        rw [List.getElem_take] at e
        have hj2 : j < i := by
          rw [List.length_take] at hj
          omega
        have := (List.getElem_inj (h₀ := by omega) (h₁ := hi) ho.nd).mp e
        omega
      refine ⟨_, rfl, _, rfl, ?_⟩
      have key : ∀ (H3 : Hp) (p : Addr), Same H2 H3 → Sq K H3 p (cutV (es.map V.str) none (some (i : Int))) → rIn K false (.str es[i]) (.ref p) H3 fun x H' => ∃ k, x = .bl k ∧ (if k = true then False else Same H0 H' ∧ ∃ v1 v2, [some (V.ref a), some (V.int (i : Nat)), some (V.str es[i])] = [some (.ref a), v1, v2]) := by
        intro H3 p s5 hs
        rw [cut_to es i (by omega)] at hs
        refine ⟨p, _, rfl, hs, rfl, flat_strs _, _, rfl, ?_⟩
        rw [hno]
        exact ⟨Same.trans s4 s5, _, _, rfl⟩
      rcases sq_same hq0 s4 with hl | ht
      · exact ⟨_, rfl, _, rfl, .inl ⟨a, _, rfl, hl, fun p np => .inr (key _ p (same_upd np) (.inl (.inl (.inl upd_same))))⟩⟩
      · refine ⟨_, rfl, _, rfl, .inr ⟨a, _, rfl, ht, ?_, fun p np => .inr (key _ p (same_upd np) (.inr (.inl (.inl upd_same))))⟩⟩
        rintro ⟨_, h2⟩
        rw [HT.sIx_nat, List.length_map] at h2
        omega
    · rw [List.length_map] at e1
      exact absurd (decide_eq_true (by omega)) e1
/-! ### ties that are right -/
def spEvent (K : PySem.W.Frag) : Sp := fun vs H Q _ => ∃ (a : Addr) (es : List Str) (e : Str), vs = [.ref a, .str e] ∧ Sq K H a (es.map V.str) ∧ e ∈ es ∧ Q .non H
theorem ok_need_event {f : Addr} {fd : FuncData} (F : Fun K "need_event" "need_event" s_need_event f fd) (T : Txt mg) : FnOk P w K mg base CX0 1 f fd ["events", "event"] (spEvent K) := by
  have nd := sc_need_event.nd
  refine F.ok sc_need_event (fun vs H Q E h => ?_) (fun cdv A outer s H vs Q E hr h => ?_)
  · obtain ⟨_, _, _, rfl, _⟩ := h
    rfl
  · obtain ⟨a, es, e, rfl, hq, he, q⟩ := h
    refine ⟨_, (pss_one (ps_if (pt_cmpR (oNotIn K) (pv 1) (pv 0) (by rfl))
      (pss_one ps_no) pss_nil)), ?_⟩
    refine ⟨_, rfl, _, rfl, .inr ⟨a, _, rfl, hq, rfl, flat_strs _, _, rfl, ?_⟩⟩
    rw [inV_strs, decide_eq_true he]
    exact q
def spTie (K : PySem.W.Frag) : Sp := fun vs H Q _ => ∃ (a b : Addr) (es : List Str) (t : Str × Str × Int), vs = [.ref a, .ref b] ∧ Sq K H a (es.map V.str) ∧ H b = some (.tup (rowV t)) ∧ t.1 ∈ es ∧ t.2.1 ∈ es ∧ 0 ≤ t.2.2 ∧ Q .non H
theorem ok_need_tie {f : Addr} {fd : FuncData} (F : Fun K "need_tie" "need_tie" s_need_tie f fd) (T : Txt mg) (cneed_event : Cal P w K mg base 1 "need_event" (spEvent K) []) (cis_count : Cal P w K mg base 2 "is_count" (spIsCount K) []) : FnOk P w K mg base CX0 3 f fd ["events", "tie"] (spTie K) := by
  have nd := sc_need_tie.nd
  refine F.ok sc_need_tie (fun vs H Q E h => ?_) (fun cdv A outer s H vs Q E hr h => ?_)
  · obtain ⟨_, _, _, _, rfl, _⟩ := h
    rfl
  · obtain ⟨a, b, es, ⟨x, y, n⟩, rfl, hq, hb, hx, hy, hn, q⟩ := h
    have hb1 : SqT K H b [.str x, .str y, .int n] := .inl (.inl hb)
    refine ⟨_, (pss_cons (ps_if (PW.pt (pw_or (pt_not (pt_val (pe_callB (isiK K) (by rfl) T.m_isinstance PyProof.Rows.boot_isinstance (pa_cons (pv 1) (pa_cons (pe_bltn (v := .ty "tuple") rfl T.m_tuple PyProof.Rows.boot_tuple rfl) pa_nil))))) (pw_or1 (pt_cmpR op_ne (pe_callB (lenK K) (by rfl) T.m_len PySem.boot_len (pa_cons (pv 1) pa_nil)) pe_int (by rfl)))))
      (pss_one ps_no) pss_nil)
      (pss_cons (ps_asg (pv 1) (pg_tup rfl (pgs_cons (pg_name (i := 2) nd rfl (Or.inl rfl)) (pgs_cons (pg_name (i := 3) nd rfl (Or.inl rfl)) (pgs_cons (pg_name (i := 4) nd rfl (Or.inl rfl)) pgs_nil)))))
      (pss_cons (ps_expr (pe_c cneed_event hr (by decide) rfl (pa_cons (pv 0) (pa_cons (pv 2) pa_nil))))
      (pss_cons (ps_expr (pe_c cneed_event hr (by decide) rfl (pa_cons (pv 0) (pa_cons (pv 3) pa_nil))))
      (pss_one (ps_if (pt_not (pt_val (pe_c cis_count hr (by decide) rfl (pa_cons (pv 4) pa_nil))))
      (pss_one ps_no) pss_nil)))))), ?_⟩
    refine ⟨_, rfl, _, _, _, _, _, rfl, .ty _, ty_sqt hb1, kity true (by decide) (by decide) rfl, _, rfl, _, rfl, .inl ⟨b, _, rfl, .inr hb1, rfl, _, rfl, ?_⟩⟩
    refine ⟨_, rfl, b, _, rfl, hb1, rfl, _, _, rfl, _, _, rfl, _, _, rfl, rfl, ?_⟩
    refine ⟨_, rfl, _, rfl, a, es, x, rfl, hq, hx, ?_⟩
    refine ⟨_, rfl, _, rfl, a, es, y, rfl, hq, hy, ?_⟩
    refine ⟨_, rfl, .inl ⟨n, rfl, _, rfl, ?_⟩⟩
    rw [decide_eq_true hn]
    exact q
def spTies (K : PySem.W.Frag) : Sp := fun vs H Q _ => ∃ (a b : Addr) (es : List Str) (ts : List Addr) (ties : List (Str × Str × Int)), vs = [.ref a, .ref b] ∧ Sq K H a (es.map V.str) ∧ Sq K H b (ts.map V.ref) ∧ TiesAt H ts ties ∧ ties.length ≤ 60 ∧
  (∀ t ∈ ties, t.1 ∈ es ∧ t.2.1 ∈ es ∧ 0 ≤ t.2.2) ∧ ∀ H', Same H H' → Q .non H'
theorem ok_need_ties {f : Addr} {fd : FuncData} (F : Fun K "need_ties" "need_ties" s_need_ties f fd) (T : Txt mg) (cneed_tie : Cal P w K mg base 3 "need_tie" (spTie K) []) : FnOk P w K mg base CX0 4 f fd ["events", "ties"] (spTies K) := by
  have nd := sc_need_ties.nd
  refine F.ok sc_need_ties (fun vs H Q E h => ?_) (fun cdv A outer s H vs Q E hr h => ?_)
  · obtain ⟨_, _, _, _, _, rfl, _⟩ := h
    rfl
  · obtain ⟨a, b, es, ts, ties, rfl, hq, hb, ht, hl, hin, q⟩ := h
    refine ⟨_, (pss_cons (ps_if (PW.pt (pw_or (pt_not (pt_val (pe_callB (isiTK K) (by rfl) T.m_isinstance PyProof.Rows.boot_isinstance (pa_cons (pv 1) (pa_cons (pe_tup (pa_cons (pe_bltn (v := .ty "list") rfl T.m_list PyProof.Rows.boot_list rfl) (pa_cons (pe_bltn (v := .ty "tuple") rfl T.m_tuple PyProof.Rows.boot_tuple rfl) pa_nil))) pa_nil))))) (pw_or1 (pt_cmpR op_gt (pe_callB (lenK K) (by rfl) T.m_len PySem.boot_len (pa_cons (pv 1) pa_nil)) (pe_gi rfl T.m_MOST_TIES) (by rfl)))))
      (pss_one ps_no) pss_nil)
      (pss_one (ps_for PassesOwn.never rfl (pi_seq K (pv 1)) (pg_name (i := 2) nd rfl (Or.inl rfl))
      (pss_one (ps_expr (pe_c cneed_tie hr (by decide) rfl (pa_cons (pv 0) (pa_cons (pv 2) pa_nil)))))))), ?_⟩
    refine ⟨_, rfl, sz 2, fun T0 n0 => ?_⟩
    have s0 : Same H (upd H T0 (.tup [.ty "list", .ty "tuple"])) := same_upd n0
    have hT : (upd H T0 (.tup [.ty "list", .ty "tuple"])) T0 = some (.tup [.ty "list", .ty "tuple"]) := upd_same
    revert s0 hT
    generalize upd H T0 (.tup [.ty "list", .ty "tuple"]) = H0
    intro s0 hT
    obtain ⟨t, hty, hk⟩ := ty_sq (sq_same hb s0)
    refine ⟨_, T0, _, _, _, true, rfl, hT, .cons (.ty _) (.cons (.ty _) .nil), hty, hk, _, rfl, _, rfl, .inl ⟨b, _, rfl, sq_same hb s0, _, _, rfl, rfl, _, rfl, ite2 (fun e1 => ?_) (fun e1 => ?_)⟩⟩
    · have e2 := of_decide_eq_true e1
      rw [List.length_map, ht.length] at e2
      omega
    · refine for_seq (fun i σ H' => Same H0 H' ∧ ∃ v1, σ = [some (.ref a), some (.ref b), v1]) (fun Q hQ => ⟨_, rfl, hQ⟩) (sq_same hb s0) ⟨Same.refl _, _, rfl⟩ (fun _ _ _ _ p => p.1) (fun i x σ H1 hx p => ?_) (fun σ H1 p => q _ (Same.trans s0 p.1))
      obtain ⟨s1, v1, rfl⟩ := p
      have s2 := Same.trans s0 s1
      obtain ⟨c, t, rfl, hm, _, hc⟩ := (ht.same s2).get hx
      obtain ⟨i1, i2, i3⟩ := hin t hm
      exact ⟨_, rfl, _, rfl, a, c, es, t, rfl, sq_same hq s2, hc, i1, i2, i3, s1, _, rfl⟩
/-! ### limits that are right -/
def LimsAt (H : Hp) (l : V) (cs : List (Str × Int)) : Prop := (l = .non ∧ cs = []) ∨ ∃ c, l = .ref c ∧ H c = some (.dK (capsV cs))
theorem capsV_get {cs : List (Str × Int)} {i : Nat} {k : Key} {v : V} (h : (capsV cs)[i]? = some (k, v)) : ∃ c, cs[i]? = some c ∧ c ∈ cs ∧ k = .inr c.1 ∧ v = .int c.2 := by
  unfold capsV at h
  rw [List.getElem?_map] at h
  cases e : cs[i]? with
  | none => rw [e] at h; cases h
  | some c =>
    rw [e] at h
    cases h
    exact ⟨c, rfl, List.mem_of_getElem? e, rfl, rfl⟩
theorem valV_mem {cs : List (Str × Int)} (h : (cs.map (·.1)).Nodup) {c : Str × Int} (hc : c ∈ cs) : valV (capsV cs) (.inr c.1) = some (.int c.2) := by
  induction cs with
  | nil => cases hc
  | cons d r ih =>
    rw [List.map_cons, List.nodup_cons] at h
    show Option.map (·.2) (List.find? _ ((.inr d.1, .int d.2) :: capsV r)) = _
    rw [List.find?_cons]
    rcases List.mem_cons.mp hc with e | e
    · subst e
      rw [decide_eq_true rfl]
      rfl
    · have hne : d.1 ≠ c.1 := fun q => h.1 (q ▸ List.mem_map_of_mem e)
      rw [decide_eq_false (fun q : (Sum.inr d.1 : Key) = .inr c.1 => hne (Sum.inr.inj q))]
      exact ih h.2 e
theorem sq_lock {K : PySem.W.Frag} {H : Hp} {a c : Addr} {xs : List V} {kvs : List (Key × V)} {o : HO} (h : Sq K H a xs) (hc : H c = some (.dK kvs)) : Sq K (upd H c o) a xs := by
  rcases h with ((h | ⟨u, h⟩) | h) | ((h | ⟨u, h⟩) | h)
  · exact .inl (.inl (.inl (by rw [upd_ne (ne_of h hc (fun z => nomatch z))]; exact h)))
  · exact .inl (.inl (.inr ⟨u, by rw [upd_ne (ne_of h hc (fun z => nomatch z))]; exact h⟩))
  · exact .inl (.inr h)
  · exact .inr (.inl (.inl (by rw [upd_ne (ne_of h hc (fun z => nomatch z))]; exact h)))
  · exact .inr (.inl (.inr ⟨u, by rw [upd_ne (ne_of h hc (fun z => nomatch z))]; exact h⟩))
  · exact .inr (.inr h)
def spLimits (K : PySem.W.Frag) : Sp := fun vs H Q _ => ∃ (a : Addr) (es : List Str) (l : V) (cs : List (Str × Int)), vs = [.ref a, l] ∧ Sq K H a (es.map V.str) ∧ LimsAt H l cs ∧ (cs.map (·.1)).Nodup ∧ (∀ c ∈ cs, c.1 ∈ es ∧ 0 ≤ c.2) ∧ ∀ H', Same H H' → Q .non H'
theorem ok_need_limits {f : Addr} {fd : FuncData} (F : Fun K "need_limits" "need_limits" s_need_limits f fd) (T : Txt mg) (cis_count : Cal P w K mg base 2 "is_count" (spIsCount K) []) : FnOk P w K mg base CX0 3 f fd ["events", "limits"] (spLimits K) := by
  have nd := sc_need_limits.nd
  refine F.ok sc_need_limits (fun vs H Q E h => ?_) (fun cdv A outer s H vs Q E hr h => ?_)
  · obtain ⟨_, _, _, _, rfl, _⟩ := h
    rfl
  · obtain ⟨a, es, l, cs, rfl, hq, hl, hnd, hin, q⟩ := h
    have hu : (A.deeper (envOfC "need_limits" (defScope s_need_limits) s.heap.objs.size f cdv)).units + 1 < cLine := by
      have := hr.units
      omega
    refine ⟨_, (pss_cons (ps_if (pt_cmpR op_isN (pv 1) pe_non (by rfl))
      (pss_one ps_retN) pss_nil)
      (pss_cons (ps_if (pt_not (pt_val (pe_callB (isiK K) (by rfl) T.m_isinstance PyProof.Rows.boot_isinstance (pa_cons (pv 1) (pa_cons (pe_bltn (v := .ty "dict") rfl T.m_dict PyProof.Rows.boot_dict rfl) pa_nil)))))
      (pss_one ps_no) pss_nil)
      (pss_one (ps_lock (ps_for PassesOwn.never rfl (pi_keys (pv 1)) (pg_name (i := 2) nd rfl (Or.inl rfl))
      (pss_one (ps_if (PW.pt (pw_or (pt_cmpR (oNotIn K) (pv 2) (pv 0) (by rfl)) (pw_or1 (pt_not (pt_val (pe_c cis_count hr (by decide) rfl (pa_cons (pe_dget hu (pv 1) (pv 2) (fun _ _ => rfl)) pa_nil)))))))
      (pss_one ps_no) pss_nil))))))), ?_⟩
    rcases hl with ⟨rfl, rfl⟩ | ⟨c, rfl, hc⟩
    · exact ⟨_, rfl, rfl, _, rfl, q _ (Same.refl _)⟩
    refine ⟨_, rfl, rfl, _, rfl, ite2 (fun e => nomatch of_decide_eq_true e) (fun _ => ?_)⟩
    refine ⟨_, rfl, _, _, _, _, _, rfl, .ty _, .base (.dK hc), kity true (by decide) (by decide) rfl, _, rfl, ?_⟩
    refine ⟨c, _, hc, trivial, fun od => ?_⟩
    have hq2 : Sq K (upd H c (.frz od (.dK (capsV cs)))) a (es.map V.str) := sq_lock hq hc
    have hc2 : (upd H c (.frz od (.dK (capsV cs)))) c = some (.frz od (.dK (capsV cs))) := upd_same
    have back : Same H (upd (upd H c (.frz od (.dK (capsV cs)))) c (.dK (capsV cs))) := fun b o hb => by
      by_cases e : b = c
      · subst e
        rw [hc] at hb
        cases hb
        exact upd_same
      · rw [upd_ne e, upd_ne e]
        exact hb
    refine ⟨_, rfl, c, od, rfl, .inl ⟨capsV cs, hc2, for_it walk_keys (fun i σ H' => H' = upd H c (.frz od (.dK (capsV cs))) ∧ ∃ v, σ = [some (.ref a), some (.ref c), v]) ⟨rfl, _, rfl⟩ (fun i σ H' _ p => p.1 ▸ hc2) (fun i x σ H1 H2 hi p y => ?_) (fun σ H1 p => ?_)⟩⟩
    · obtain ⟨rfl, v, rfl⟩ := p
      obtain ⟨rfl, k, u, hk, rfl⟩ := y
      obtain ⟨d, _, hd, rfl, rfl⟩ := capsV_get hk
      obtain ⟨i1, i2⟩ := hin d hd
      refine ⟨_, rfl, _, rfl, .inr ⟨a, _, rfl, hq2, rfl, flat_strs _, _, rfl, ?_⟩⟩
      show if (!(inV (.str d.1) (es.map V.str))) = true then _ else _
      rw [inV_strs, decide_eq_true i1]
      refine ⟨_, rfl, _, rfl, c, _, rfl, .inl ⟨_, .inr d.1, .inr ⟨od, hc2⟩, rfl, (valV_mem hnd hd).symm⟩, .inl ⟨d.2, rfl, _, rfl, ?_⟩⟩
      rw [decide_eq_true i2]
      exact ⟨rfl, _, rfl⟩
    · obtain ⟨rfl, v, rfl⟩ := p
      exact ⟨hc2, q _ back⟩
/-! ### no ring -/
def UpK (ρ : Str → Nat) (kvs : List (List Key × V)) : Prop := ∀ p ∈ kvs, ∃ x y : Str, p.1 = [.inr x, .inr y] ∧ ρ x < ρ y
theorem valV_some {kvs : List (List Key × V)} {k : List Key} (h : (valV kvs k).isSome = true) : ∃ p ∈ kvs, p.1 = k := by
  unfold valV at h
  rw [Option.isSome_map] at h
  obtain ⟨p, hp⟩ := Option.isSome_iff_exists.mp h
  have h2 : decide (p.1 = k) = true := List.find?_some (p := fun kv : List Key × V => decide (kv.1 = k)) hp
  exact ⟨p, List.mem_of_find?_eq_some hp, of_decide_eq_true h2⟩
theorem UpK.nil {ρ : Str → Nat} : UpK ρ [] := fun p hp => by cases hp
theorem UpK.put {ρ : Str → Nat} {kvs : List (List Key × V)} {x y : Str} {v : V} (h : UpK ρ kvs) (hxy : ρ x < ρ y) : UpK ρ (putK kvs [.inr x, .inr y] v) := by
  intro p hp
  unfold putK at hp
  split at hp
  · obtain ⟨q, hq, e⟩ := List.mem_map.mp hp
    by_cases z : q.1 = [.inr x, .inr y]
    · rw [if_pos z] at e
      subst e
      exact ⟨x, y, z, hxy⟩
    · rw [if_neg z] at e
      subst e
      exact h q hq
  · rcases List.mem_append.mp hp with hp | hp
    · exact h p hp
    · rw [List.mem_singleton] at hp
      subst hp
      exact ⟨x, y, rfl, hxy⟩
theorem UpK.get {ρ : Str → Nat} {kvs : List (List Key × V)} {x y : Str} (h : UpK ρ kvs) (hv : (valV kvs [.inr x, .inr y]).isSome = true) : ρ x < ρ y := by
  obtain ⟨p, hp, e⟩ := valV_some hv
  obtain ⟨x', y', e', hl⟩ := h p hp
  rw [e] at e'
  cases e'
  exact hl
/-- the dict of what is reached, at D -/
def Rst (ρ : Str → Nat) (D : Addr) (n : Nat) (H H' : Hp) : Prop := Ext D H H' ∧ ∃ kvs, H' D = some (.dT kvs) ∧ UpK ρ kvs ∧ kvs.length ≤ n
theorem Rst.new {ρ : Str → Nat} {D : Addr} {n : Nat} {H H' : Hp} {p : Addr} {o : HO} (h : Rst ρ D n H H') (np : H' p = none) : Rst ρ D n H (upd H' p o) := by
  obtain ⟨e, kvs, hD, u, l⟩ := h
  exact ⟨e.trans (Ext.new np), kvs, by rw [upd_ne (ne_of_none hD np)]; exact hD, u, l⟩
theorem Rst.put {ρ : Str → Nat} {D : Addr} {n : Nat} {H H' : Hp} {kvs : List (List Key × V)} {x y : Str} {v : V} (h : Rst ρ D n H H') (hD : H' D = some (.dT kvs)) (hxy : ρ x < ρ y) : Rst ρ D (n + 1) H (upd H' D (.dT (putK kvs [.inr x, .inr y] v))) := by
  obtain ⟨e, kvs', hD', u, l⟩ := h
  rw [hD] at hD'
  cases hD'
  exact ⟨e.trans Ext.at, _, upd_same, u.put hxy, by have := length_putK kvs [.inr x, .inr y] v; omega⟩
theorem Rst.mono {ρ : Str → Nat} {D : Addr} {n m : Nat} {H H' : Hp} (h : Rst ρ D n H H') (l : n ≤ m) : Rst ρ D m H H' := by
  obtain ⟨e, kvs, hD, u, z⟩ := h
  exact ⟨e, kvs, hD, u, Nat.le_trans z l⟩
theorem sq_ne {H : Hp} {a D : Addr} {xs : List V} (h : Sq K H a xs) (hD : H D = none) : ∀ o, H a = some o → a ≠ D := fun o e => ne_of_none e hD
theorem atE {D a : Addr} {H H' : Hp} (hD : H D = none) (e : Ext D H H') : ∀ o, H a = some o → H' a = some o := fun o h => e a o (ne_of_none h hD) h
def spRinged (K : PySem.W.Frag) : Sp := fun vs H Q _ => ∃ (a b : Addr) (es : List Str) (ts : List Addr) (ties : List (Str × Str × Int)) (ρ : Str → Nat), vs = [.ref a, .ref b] ∧ Sq K H a (es.map V.str) ∧ Sq K H b (ts.map V.ref) ∧ TiesAt H ts ties ∧ es.length ≤ 8 ∧ ties.length ≤ 60 ∧
  (∀ t ∈ ties, t.2.2 = 0 → ρ t.1 < ρ t.2.1) ∧ ∀ p H', Same H H' → H' p = some (.lst []) → Q (.ref p) H'
theorem ok_ringed {f : Addr} {fd : FuncData} (F : Fun K "ringed" "ringed" s_ringed f fd) (T : Txt mg) : FnOk P w K mg base CX0 1 f fd ["events", "ties"] (spRinged K) := by
  have nd := sc_ringed.nd
  refine F.ok sc_ringed (fun vs H Q E h => ?_) (fun cdv A outer s H vs Q E hr h => ?_)
  · obtain ⟨_, _, _, _, _, _, rfl, _⟩ := h
    rfl
  · obtain ⟨a, b, es, ts, ties, ρ, rfl, hq, hb, ht, le, lt, hρ, q⟩ := h
    have hu : (A.deeper (envOfC "ringed" (defScope s_ringed) s.heap.objs.size f cdv)).units + 1 < cLine := by
      have := hr.units
      omega
    refine ⟨_, (pss_cons (ps_set (i := 2) nd rfl (Or.inr rfl) (pe_dcT hu (own := [("earlier", 8), ("later", 9), ("lag", 10)]) (g := (gTup K 3 (gCons (gName 8) (gCons (gName 9) (gCons (gName 10) gNil))))) rfl nd (pi_seq K (pv 1)) (blkOk_by (N := ["events", "ties", "reached", "middle", "first", "before", "last", "beyond", "earlier", "later", "lag", "event"]) (sc := defScope s_ringed) (by decide +kernel)) (fun _ _ _ _ _ => (pg_tup rfl (pgs_cons (pg_name (i := 8) nd rfl (Or.inl rfl)) (pgs_cons (pg_name (i := 9) nd rfl (Or.inl rfl)) (pgs_cons (pg_name (i := 10) nd rfl (Or.inl rfl)) pgs_nil))))) (fun _ _ _ _ _ => pts_one (pt_cmpR op_eq (pv 10) pe_int (by rfl))) (fun _ _ _ _ _ => (pe_tup (pa_cons (pv 8) (pa_cons (pv 9) pa_nil)))) (fun _ _ _ _ _ => pe_bl)))
      (pss_cons (ps_for PassesOwn.never rfl (pi_seq K (pv 0)) (pg_name (i := 3) nd rfl (Or.inr rfl))
      (pss_cons (ps_setLc (i := 5) (y := "before") (own := [("first", 4)]) (g := gName 4) rfl nd rfl rfl (sw_true rfl rfl rfl (by decide +kernel)) (pi_seq K (pv 0)) (blkOk_by (N := ["events", "ties", "reached", "middle", "first", "before", "last", "beyond", "earlier", "later", "lag", "event"]) (sc := defScope s_ringed) (by decide +kernel)) (fun _ _ _ _ _ => pg_name (i := 4) nd rfl (Or.inl rfl)) (fun _ _ _ _ _ => pts_one (pt_cmp (pc_din hu (pe_tup (pa_cons (pv 4) (pa_cons (pv 3) pa_nil))) (pv 2)) (by rfl))) (fun _ _ _ _ _ => (pv 4)))
      (pss_cons (ps_setLc (i := 7) (y := "beyond") (own := [("last", 6)]) (g := gName 6) rfl nd rfl rfl (sw_true rfl rfl rfl (by decide +kernel)) (pi_seq K (pv 0)) (blkOk_by (N := ["events", "ties", "reached", "middle", "first", "before", "last", "beyond", "earlier", "later", "lag", "event"]) (sc := defScope s_ringed) (by decide +kernel)) (fun _ _ _ _ _ => pg_name (i := 6) nd rfl (Or.inl rfl)) (fun _ _ _ _ _ => pts_one (pt_cmp (pc_din hu (pe_tup (pa_cons (pv 3) (pa_cons (pv 6) pa_nil))) (pv 2)) (by rfl))) (fun _ _ _ _ _ => (pv 6)))
      (pss_one (ps_for PassesOwn.never rfl (pi_seq K (pv 5)) (pg_name (i := 4) nd rfl (Or.inl rfl))
      (pss_one (ps_for PassesOwn.never rfl (pi_seq K (pv 7)) (pg_name (i := 6) nd rfl (Or.inl rfl))
      (pss_one (ps_dput hu (pv 2) (pe_tup (pa_cons (pv 4) (pa_cons (pv 6) pa_nil))) pe_bl rfl)))))))))
      (pss_one (ps_ret (pe_lc (own := [("event", 11)]) (g := gName 11) rfl nd (pi_seq K (pv 0)) (blkOk_by (N := ["events", "ties", "reached", "middle", "first", "before", "last", "beyond", "earlier", "later", "lag", "event"]) (sc := defScope s_ringed) (by decide +kernel)) (fun _ _ _ _ _ => pg_name (i := 11) nd rfl (Or.inl rfl)) (fun _ _ _ _ _ => pts_one (pt_cmp (pc_din hu (pe_tup (pa_cons (pv 11) (pa_cons (pv 11) pa_nil))) (pv 2)) (by rfl))) (fun _ _ _ _ _ => (pv 11))))))), ?_⟩
    refine seq_asg ?_
    refine dcT_seq (H0 := H) (fun D i H' => Rst ρ D i H H') (fun Q hQ => ⟨_, rfl, hQ⟩) hb (fun _ h => h) (fun D hD => ⟨Ext.new hD, [], upd_same, UpK.nil, Nat.le_refl _⟩) (fun D hD i H' _ p => atE hD p.1) (fun D hD i x H1 hx p => ?_) (fun D hD H1 p1 => ?_)
    · obtain ⟨c, t, rfl, hm, _, hc⟩ := ht.get hx
      have hc1 := p.1 c _ (ne_of_none hc hD) hc
      have hi : i < 60 := by
        have := (List.getElem?_eq_some_iff.mp hx).1
        rw [List.length_map, ht.length] at this
        omega
      refine ⟨c, _, rfl, .inl (.inl hc1), rfl, _, _, rfl, _, _, rfl, _, _, rfl, rfl, rfl, _, rfl, rfl, _, rfl, ite2 (fun e => ?_) (fun _ => p.mono (Nat.le_succ _))⟩
      have e0 : t.2.2 = 0 := by simpa using e
      refine ⟨_, rfl, _, rfl, sz 2, fun T nT => ?_⟩
      have pT := p.new (o := .tup [.str t.1, .str t.2.1]) nT
      obtain ⟨_, kvs, hk, _, hl⟩ := id pT
      exact ⟨kvs, [.inr t.1, .inr t.2.1], T, rfl, upd_same, hk, Nat.lt_of_lt_of_le (by omega) (sz 100), pT.put hk (hρ t hm e0)⟩
    have l60 : Rst ρ D 60 H H1 := p1.mono (by rw [List.length_map, ht.length]; exact lt)
    clear p1
    have aH : ∀ n H', Rst ρ D n H H' → ∀ o, H a = some o → H' a = some o := fun n H' p => atE hD p.1
    have ev : ∀ {i : Nat} {x : V}, (es.map V.str)[i]? = some x → ∃ m, x = .str m := by
      intro i x hx
      rw [List.getElem?_map] at hx
      cases e : es[i]? with
      | none => rw [e] at hx; cases hx
      | some m => rw [e] at hx; cases hx; exact ⟨m, rfl⟩
    have el : ∀ {i : Nat} {x : V}, (es.map V.str)[i]? = some x → i < 8 := by
      intro i x hx
      have := (List.getElem?_eq_some_iff.mp hx).1
      rw [List.length_map] at this
      omega
    have fresh : ∀ {n : Nat} {H' : Hp} {L : Addr}, Rst ρ D n H H' → H' L = none → H L = none := fun {n H' L} p hL => by
      cases e : H L with
      | none => rfl
      | some o =>
        obtain ⟨e1, kvs, hk, _⟩ := p
        have := e1 L o (Ne.symm (ne_of_none hk hL)) e
        rw [hL] at this
        cases this
    have chg : ∀ {n : Nat} {H' : Hp} {L : Addr} {o : HO}, Rst ρ D n H H' → H L = none → L ≠ D → Rst ρ D n H (upd H' L o) := fun {n H' L o} p hL hne => by
      obtain ⟨e, kvs2, hk2, hu2, hl2⟩ := p
      exact ⟨e.mut hL, kvs2, by rw [upd_ne (Ne.symm hne)]; exact hk2, hu2, hl2⟩
    refine gname (seq_st (for_seqA (H0 := H) (fun i σ H' => Rst ρ D (60 + 64 * i) H H' ∧ ∃ v3 v4 v5 v6 v7, σ = [some (.ref a), some (.ref b), some (.ref D), v3, v4, v5, v6, v7, none, none, none, none]) (fun Q hQ => ⟨_, rfl, hQ⟩) hq ⟨l60, none, none, none, none, none, rfl⟩ (fun i _ H' _ p => aH _ _ p.1) (fun i x σ H2 hx p => ?_) (fun σ H2 p => ?_)))
    · obtain ⟨p, v3, v4, v5, v6, v7, rfl⟩ := p
      obtain ⟨m, rfl⟩ := ev hx
      have i8 := el hx
      refine gname ?_
      refine seq_asg ?_
      refine lc_seq (H0 := H) (fun L j H' => Rst ρ D (60 + 64 * i) H H' ∧ L ≠ D ∧ H L = none ∧ ∃ xs : List Str, H' L = some (.lst (xs.map V.str)) ∧ xs.length ≤ j ∧ ∀ x ∈ xs, ρ x < ρ m) (fun Q hQ => ⟨_, rfl, hQ⟩) hq (aH _ _ p) (fun L hL => ?_) (fun L hL j H' _ p => aH _ _ p.1) (fun L hL j x H' hx p => ?_) (fun B hB H3 p3 => ?_)
      · obtain ⟨_, kvs, hk, _⟩ := id p
        exact ⟨p.new hL, Ne.symm (ne_of_none hk hL), fresh p hL, [], upd_same, Nat.le_refl _, fun _ h => by cases h⟩
      · obtain ⟨p, hne, hLH, xs, hxs, hl, hup⟩ := p
        obtain ⟨f, rfl⟩ := ev hx
        have j8 := el hx
        refine ⟨rfl, _, rfl, _, rfl, sz 2, fun T nT => ?_⟩
        have pT := p.new (o := .tup [.str f, .str m]) nT
        have hLT : (upd H' T (.tup [.str f, .str m])) L = some (.lst (xs.map V.str)) := by
          rw [upd_ne (ne_of_none hxs nT)]
          exact hxs
        obtain ⟨_, kvs, hk, hu1, _⟩ := id pT
        refine ⟨_, rfl, D, _, rfl, .inr ⟨kvs, [.inr f, .inr m], T, .inl hk, rfl, upd_same, rfl⟩, _, rfl, ite2 (fun e1 => ?_) (fun _ => ⟨pT, hne, hLH, xs, hLT, Nat.le_succ_of_le hl, hup⟩)⟩
        refine ⟨_, rfl, _, hLT, by rw [List.length_map]; exact Nat.lt_of_lt_of_le (by omega) (sz 100), chg pT hLH hne, hne, hLH, xs ++ [f], by rw [upd_same, List.map_append]; rfl, by rw [List.length_append, List.length_singleton]; omega, fun x hx => ?_⟩
        rcases List.mem_append.mp hx with h | h
        · exact hup x h
        · rw [List.mem_singleton.mp h]
          exact hu1.get e1
      obtain ⟨p3, hBD, hBH, xs, hxs, hxl, hxu⟩ := p3
      rw [List.length_map] at hxl
      refine gname ?_
      refine seq_asg ?_
      refine lc_seq (H0 := H) (fun L j H' => Rst ρ D (60 + 64 * i) H H' ∧ L ≠ D ∧ H L = none ∧ L ≠ B ∧ H' B = some (.lst (xs.map V.str)) ∧ ∃ ys : List Str, H' L = some (.lst (ys.map V.str)) ∧ ys.length ≤ j ∧ ∀ y ∈ ys, ρ m < ρ y) (fun Q hQ => ⟨_, rfl, hQ⟩) hq (aH _ _ p3) (fun L hL => ?_) (fun L hL j H' _ p => aH _ _ p.1) (fun L hL j x H' hx p => ?_) (fun C hC H4 p4 => ?_)
      · obtain ⟨_, kvs, hk, _⟩ := id p3
        have hne := ne_of_none hxs hL
        exact ⟨p3.new hL, Ne.symm (ne_of_none hk hL), fresh p3 hL, Ne.symm hne, by rw [upd_ne hne]; exact hxs, [], upd_same, Nat.le_refl _, fun _ h => by cases h⟩
      · obtain ⟨p, hne, hLH, hLB, hB', ys, hys, hl, hup⟩ := p
        obtain ⟨f, rfl⟩ := ev hx
        have j8 := el hx
        refine ⟨rfl, _, rfl, _, rfl, sz 2, fun T nT => ?_⟩
        have pT := p.new (o := .tup [.str m, .str f]) nT
        have hLT : (upd H' T (.tup [.str m, .str f])) L = some (.lst (ys.map V.str)) := by
          rw [upd_ne (ne_of_none hys nT)]
          exact hys
        have hBT : (upd H' T (.tup [.str m, .str f])) B = some (.lst (xs.map V.str)) := by
          rw [upd_ne (ne_of_none hB' nT)]
          exact hB'
        obtain ⟨_, kvs, hk, hu1, _⟩ := id pT
        refine ⟨_, rfl, D, _, rfl, .inr ⟨kvs, [.inr m, .inr f], T, .inl hk, rfl, upd_same, rfl⟩, _, rfl, ite2 (fun e1 => ?_) (fun _ => ⟨pT, hne, hLH, hLB, hBT, ys, hLT, Nat.le_succ_of_le hl, hup⟩)⟩
        refine ⟨_, rfl, _, hLT, by rw [List.length_map]; exact Nat.lt_of_lt_of_le (by omega) (sz 100), chg pT hLH hne, hne, hLH, hLB, by rw [upd_ne (Ne.symm hLB)]; exact hBT, ys ++ [f], by rw [upd_same, List.map_append]; rfl, by rw [List.length_append, List.length_singleton]; omega, fun x hx => ?_⟩
        rcases List.mem_append.mp hx with h | h
        · exact hup x h
        · rw [List.mem_singleton.mp h]
          exact hu1.get e1
      obtain ⟨p4, hCD, hCH, hCB, hB4, ys, hys, hyl, hyu⟩ := p4
      rw [List.length_map] at hyl
      have sB : Sq K H4 B (xs.map V.str) := .inl (.inl (.inl hB4))
      have sC : Sq K H4 C (ys.map V.str) := .inl (.inl (.inl hys))
      refine gname ?_
      refine for_seqA (H0 := H4) (fun j σ H' => (Rst ρ D (60 + 64 * i + 8 * j) H H' ∧ H' B = some (.lst (xs.map V.str)) ∧ H' C = some (.lst (ys.map V.str))) ∧ ∃ v4 v6, σ = [some (.ref a), some (.ref b), some (.ref D), some (.str m), v4, some (.ref B), v6, some (.ref C), none, none, none, none]) (fun Q hQ => ⟨_, rfl, hQ⟩) sB ⟨⟨p4, hB4, hys⟩, _, _, rfl⟩ (fun j _ H' _ p o ho => by rw [hB4] at ho; cases ho; exact p.1.2.1) (fun j x σ H5 hx5 p => ?_) (fun σ H5 p => ?_)
      · obtain ⟨⟨p, hB5, hC5⟩, w4, w6, rfl⟩ := p
        have j8 : j < 8 := by
          have := (List.getElem?_eq_some_iff.mp hx5).1
          rw [List.length_map] at this
          omega
        obtain ⟨f, rfl, hfm⟩ : ∃ f : Str, x = .str f ∧ ρ f < ρ m := by
          rw [List.getElem?_map] at hx5
          cases e : xs[j]? with
          | none => rw [e] at hx5; cases hx5
          | some f => rw [e] at hx5; cases hx5; exact ⟨f, rfl, hxu f (List.mem_of_getElem? e)⟩
        refine gname (for_seqA (H0 := H4) (fun k σ H' => (Rst ρ D (60 + 64 * i + 8 * j + k) H H' ∧ H' B = some (.lst (xs.map V.str)) ∧ H' C = some (.lst (ys.map V.str))) ∧ ∃ v6, σ = [some (.ref a), some (.ref b), some (.ref D), some (.str m), some (.str f), some (.ref B), v6, some (.ref C), none, none, none, none]) (fun Q hQ => ⟨_, rfl, hQ⟩) sC ⟨⟨p, hB5, hC5⟩, _, rfl⟩ (fun k _ H' _ p o ho => by rw [hys] at ho; cases ho; exact p.1.2.2) (fun k x σ H6 hx6 p => ?_) (fun σ H6 p => ?_))
        · obtain ⟨⟨p, hB6, hC6⟩, u6, rfl⟩ := p
          have k8 : k < 8 := by
            have := (List.getElem?_eq_some_iff.mp hx6).1
            rw [List.length_map] at this
            omega
          obtain ⟨l, rfl, hml⟩ : ∃ f : Str, x = .str f ∧ ρ m < ρ f := by
            rw [List.getElem?_map] at hx6
            cases e : ys[k]? with
            | none => rw [e] at hx6; cases hx6
            | some f => rw [e] at hx6; cases hx6; exact ⟨f, rfl, hyu f (List.mem_of_getElem? e)⟩
          refine gname ?_
          refine ⟨_, rfl, _, rfl, _, rfl, sz 2, fun T3 nT3 => ?_⟩
          have pT3 := p.new (o := .tup [.str f, .str l]) nT3
          obtain ⟨_, kvs3, hk3, hu3, hl3⟩ := id pT3
          have lt3 : ρ f < ρ l := Nat.lt_trans hfm hml
          refine ⟨D, _, rfl, .inr ⟨kvs3, [.inr f, .inr l], T3, hk3, rfl, upd_same, Nat.lt_of_lt_of_le (by omega) (sz 1000), rfl⟩, ⟨(pT3.put hk3 lt3).mono (by omega), ?_, ?_⟩, _, rfl⟩
          · rw [upd_ne hBD, upd_ne (ne_of_none hB6 nT3)]
            exact hB6
          · rw [upd_ne hCD, upd_ne (ne_of_none hC6 nT3)]
            exact hC6
        · obtain ⟨⟨p, hB6, hC6⟩, u6, rfl⟩ := p
          exact ⟨⟨p.mono (by rw [List.length_map]; omega), hB6, hC6⟩, _, _, rfl⟩
      · obtain ⟨⟨p, hB5, hC5⟩, w4, w6, rfl⟩ := p
        exact ⟨p.mono (by rw [List.length_map]; omega), _, _, _, _, _, rfl⟩
    · obtain ⟨p, v3, v4, v5, v6, v7, rfl⟩ := p
      refine ret_of (lc_seq (H0 := H) (fun L i H' => Ext D H H' ∧ H' L = some (.lst []) ∧ L ≠ D ∧ ∃ kvs, H' D = some (.dT kvs) ∧ UpK ρ kvs) (fun Q hQ => ⟨_, rfl, hQ⟩) hq (aH _ _ p) (fun L hL => ?_) (fun L hL i H' _ p => atE hD p.1) (fun L hL i x H' hx p => ?_) (fun L hL H' p => q L H' (fun c o hc => p.1 c o (ne_of_none hc hD) hc) p.2.1))
      · obtain ⟨e, kvs, hk, hu1, _⟩ := p
        have hne := ne_of_none hk hL
        exact ⟨e.trans (Ext.new hL), upd_same, Ne.symm hne, kvs, by rw [upd_ne hne]; exact hk, hu1⟩
      · obtain ⟨e, hL', hne, kvs, hk, hu1⟩ := p
        obtain ⟨m, rfl⟩ := ev hx
        refine ⟨rfl, _, rfl, _, rfl, sz 2, fun T nT => ?_⟩
        have hk' : (upd H' T (.tup [.str m, .str m])) D = some (.dT kvs) := by
          rw [upd_ne (ne_of_none hk nT)]
          exact hk
        refine ⟨_, rfl, D, _, rfl, .inr ⟨kvs, [.inr m, .inr m], T, .inl hk', rfl, upd_same, rfl⟩, _, rfl, ite2 (fun e1 => absurd (hu1.get e1) (Nat.lt_irrefl _)) (fun _ => ?_)⟩
        exact ⟨e.trans (Ext.new nT), by rw [upd_ne (ne_of_none hL' nT)]; exact hL', hne, kvs, hk', hu1⟩

end
end Pk

set_option Elab.async false
set_option linter.all false
set_option maxRecDepth 100000
set_option maxHeartbeats 4000000
namespace Pk
open PySem PySem.Spec PyProof.Rows L2 Pu
abbrev s_Plan___init__ : Stmt := inClass (topS 37) 0
theorem sc_Plan___init__ : FnScope ["self", "events", "ties", "limits", "members"] ["self", "events", "ties", "limits"] (defScope s_Plan___init__) := ⟨rfl, rfl, rfl, by decide +kernel, rfl, by decide +kernel, by decide +kernel⟩
abbrev s_Plan_events : Stmt := inClass (topS 37) 1
theorem sc_Plan_events : FnScope ["self"] ["self"] (defScope s_Plan_events) := ⟨rfl, rfl, rfl, by decide +kernel, rfl, by decide +kernel, by decide +kernel⟩
abbrev s_Plan_ties : Stmt := inClass (topS 37) 2
theorem sc_Plan_ties : FnScope ["self"] ["self"] (defScope s_Plan_ties) := ⟨rfl, rfl, rfl, by decide +kernel, rfl, by decide +kernel, by decide +kernel⟩
abbrev s_Plan_limits : Stmt := inClass (topS 37) 3
theorem sc_Plan_limits : FnScope ["self"] ["self"] (defScope s_Plan_limits) := ⟨rfl, rfl, rfl, by decide +kernel, rfl, by decide +kernel, by decide +kernel⟩
abbrev s_Plan___len__ : Stmt := inClass (topS 37) 5
theorem sc_Plan___len__ : FnScope ["self"] ["self"] (defScope s_Plan___len__) := ⟨rfl, rfl, rfl, by decide +kernel, rfl, by decide +kernel, by decide +kernel⟩
abbrev s_Plan___contains__ : Stmt := inClass (topS 37) 6
theorem sc_Plan___contains__ : FnScope ["self", "value"] ["self", "value"] (defScope s_Plan___contains__) := ⟨rfl, rfl, rfl, by decide +kernel, rfl, by decide +kernel, by decide +kernel⟩
abbrev s_need_plan : Stmt := topS 38
theorem sc_need_plan : FnScope ["plan"] ["plan"] (defScope s_need_plan) := ⟨rfl, rfl, rfl, by decide +kernel, rfl, by decide +kernel, by decide +kernel⟩

section
variable {P : Program} {w : World} {K : PySem.W.Frag} {mg : Str → Option Value} {base : Heap}
/-! ### the class -/
structure PlanC (K : PySem.W.Frag) (C : Addr) : Prop where
  cls : Cls K C
  order : NoAttr K C "order"
  rows : NoAttr K C "rows"
  caps : NoAttr K C "caps"
structure PlanAt (K : PySem.W.Frag) (C : Addr) (H : Hp) (p : Addr) (d : PlanD) : Prop where
  ex : ∃ (dx o r c : Addr) (ts : List Addr), H p = some (.ins C dx [("order", .ref o), ("rows", .ref r), ("caps", .ref c)]) ∧ SqT K H o (d.evs.map V.str) ∧ SqT K H r (ts.map V.ref) ∧ TiesAt H ts d.ties ∧ H c = some (.dK (capsV d.caps))
theorem PlanAt.same {C : Addr} {H H' : Hp} {p : Addr} {d : PlanD} (h : PlanAt K C H p d) (s : Same H H') : PlanAt K C H' p d := by
  obtain ⟨dx, o, r, c, ts, h1, h2, h3, h4, h5⟩ := h.ex
  exact ⟨dx, o, r, c, ts, s _ _ h1, sqt_same h2 s, sqt_same h3 s, h4.same s, s _ _ h5⟩
theorem keepI {H : Hp} {x C dx : Addr} {fs : List (Str × V)} {u : HO} (hx : H x = some (.ins C dx fs)) {b : Addr} {o : HO} (hb : H b = some o) (hn : o ≠ .ins C dx fs) : (upd H x u) b = some o := by
  rw [upd_ne (fun e => hn (by subst e; rw [hx] at hb; cases hb; rfl))]
  exact hb
theorem sqt_ins {H : Hp} {x C dx a : Addr} {fs : List (Str × V)} {u : HO} {xs : List V} (h : SqT K H a xs) (hx : H x = some (.ins C dx fs)) : SqT K (upd H x u) a xs := by
  rcases h with (h | ⟨o, h⟩) | h
  · exact .inl (.inl (keepI hx h (fun z => nomatch z)))
  · exact .inl (.inr ⟨o, keepI hx h (fun z => nomatch z)⟩)
  · exact .inr h
theorem sq_ins {H : Hp} {x C dx a : Addr} {fs : List (Str × V)} {u : HO} {xs : List V} (h : Sq K H a xs) (hx : H x = some (.ins C dx fs)) : Sq K (upd H x u) a xs := by
  rcases h with ((h | ⟨o, h⟩) | h) | h
  · exact .inl (.inl (.inl (keepI hx h (fun z => nomatch z))))
  · exact .inl (.inl (.inr ⟨o, keepI hx h (fun z => nomatch z)⟩))
  · exact .inl (.inr h)
  · exact .inr (sqt_ins h hx)
theorem TiesAt.ins {H : Hp} {x C dx : Addr} {fs : List (Str × V)} {u : HO} {ts : List Addr} {ties : List (Str × Str × Int)} (h : TiesAt H ts ties) (hx : H x = some (.ins C dx fs)) : TiesAt (upd H x u) ts ties := by
  unfold TiesAt at *
  induction h with
  | nil => exact .nil
  | cons r _ ih => exact .cons (keepI hx r (fun z => nomatch z)) ih
theorem LimsAt.ins {H : Hp} {x C dx : Addr} {fs : List (Str × V)} {u : HO} {l : V} {cs : List (Str × Int)} (h : LimsAt H l cs) (hx : H x = some (.ins C dx fs)) : LimsAt (upd H x u) l cs := by
  rcases h with h | ⟨c, e, h⟩
  · exact .inl h
  · exact .inr ⟨c, e, keepI hx h (fun z => nomatch z)⟩
theorem LimsAt.same {H H' : Hp} {l : V} {cs : List (Str × Int)} (h : LimsAt H l cs) (s : Same H H') : LimsAt H' l cs := by
  rcases h with h | ⟨c, e, h⟩
  · exact .inl h
  · exact .inr ⟨c, e, s _ _ h⟩
theorem tupNew {X : Cx} (K : PySem.W.Frag) (h : X.K = K := by rfl) : CallR X (.type "tuple") (fun xs H Q => ∃ p ys, xs = [.ref p] ∧ Sq K H p ys ∧ ∀ q H', Same H H' → SqT K H' q ys → Q (.ref q) H') := by
  intro pins s σ H xs us Q I rv hh
  obtain ⟨p, ys, rfl, hs, q⟩ := hh
  refine tupOf K h pins s σ H _ us Q I rv ⟨p, ys, rfl, ?_⟩
  rcases hs with hl | ht
  · exact .inl ⟨hl, fun l nl => q l _ (same_upd nl) (.inl (.inl upd_same))⟩
  · exact .inr ⟨ht, q p H (Same.refl _) ht⟩
def spInit (K : PySem.W.Frag) (C : Addr) : Sp := fun vs H Q _ => ∃ (x dx a b : Addr) (l : V) (ts : List Addr) (d : PlanD), vs = [.ref x, .ref a, .ref b, l] ∧ H x = some (.ins C dx []) ∧ Sq K H a (d.evs.map V.str) ∧ Sq K H b (ts.map V.ref) ∧ TiesAt H ts d.ties ∧ LimsAt H l d.caps ∧ PlanOk d ∧
  ∀ H', Ext x H H' → PlanAt K C H' x d → Q .non H'
theorem ok_init {C f : Addr} {fd : FuncData} {dv : List V} (F : FunD K "__init__" "Plan.__init__" (defArgs s_Plan___init__) (defBody s_Plan___init__) (defScope s_Plan___init__) dv [("limits", .non)] f fd) (T : Txt mg) (PC : PlanC K C)
    (cneed_events : Cal P w K mg base 2 "need_events" (spEvents K) []) (cneed_ties : Cal P w K mg base 4 "need_ties" (spTies K) []) (cneed_limits : Cal P w K mg base 3 "need_limits" (spLimits K) []) (cringed : Cal P w K mg base 1 "ringed" (spRinged K) []) :
    FnOk P w K mg base CX0 5 f fd ["self", "events", "ties", "limits"] (spInit K C) := by
  have nd := sc_Plan___init__.nd
  refine F.ok sc_Plan___init__ (fun vs H Q E h => ?_) (fun cdv A outer s H vs Q E hr h => ?_)
  · obtain ⟨_, _, _, _, _, _, _, rfl, _⟩ := h
    rfl
  · obtain ⟨x, dx, a, b, l, ts, d, rfl, hx, hq, hb, ht, hl, ok, q⟩ := h
    refine ⟨_, (pss_cons (ps_expr (pe_c cneed_events hr (by decide) rfl (pa_cons (pv 1) pa_nil)))
      (pss_cons (ps_expr (pe_c cneed_ties hr (by decide) rfl (pa_cons (pv 1) (pa_cons (pv 2) pa_nil))))
      (pss_cons (ps_expr (pe_c cneed_limits hr (by decide) rfl (pa_cons (pv 1) (pa_cons (pv 3) pa_nil))))
      (pss_cons (ps_set (i := 4) nd rfl (Or.inl rfl) (pe_c cringed hr (by decide) rfl (pa_cons (pv 1) (pa_cons (pv 2) pa_nil))))
      (pss_cons (ps_if (pt_truth (pv 4) (fun _ => rfl))
      (pss_one ps_no) pss_nil)
      (pss_cons (ps_fld (pv 0) (pe_callTy (tupNew K) (by rfl) T.m_tuple PyProof.Rows.boot_tuple (pa_cons (pv 1) pa_nil)) rfl)
      (pss_cons (ps_fld (pv 0) (pe_callTy (tupNew K) (by rfl) T.m_tuple PyProof.Rows.boot_tuple (pa_cons (pv 2) pa_nil)) rfl)
      (pss_one (ps_fld (pv 0) (pe_ifExp (pt_cmpR op_isN (pv 3) pe_non (by rfl)) pe_dnewK (pe_callTy call_dictD (by rfl) T.m_dict PyProof.Rows.boot_dict (pa_cons (pv 3) pa_nil))) rfl))))))))), ?_⟩
    obtain ⟨ρ, hρ⟩ := ok.up
    refine ⟨_, rfl, a, d.evs, rfl, hq, ok.evs, fun H1 s1 => ?_⟩
    refine ⟨_, rfl, _, rfl, a, b, d.evs, ts, d.ties, rfl, sq_same hq s1, sq_same hb s1, ht.same s1, ok.tl, ok.tin, fun H2 s2 => ?_⟩
    have t2 := Same.trans s1 s2
    refine ⟨_, rfl, _, rfl, a, d.evs, l, d.caps, rfl, sq_same hq t2, hl.same t2, ok.cnd, ok.cin, fun H3 s3 => ?_⟩
    have t3 := Same.trans t2 s3
    refine ⟨_, rfl, _, rfl, a, b, d.evs, ts, d.ties, ρ, rfl, sq_same hq t3, sq_same hb t3, ht.same t3, ok.evs.hi, ok.tl, hρ, fun p H4 s4 hp => ?_⟩
    have t4 := Same.trans t3 s4
    refine ⟨_, rfl, false, .inl ⟨[], .inl (.inl hp), rfl⟩, ?_⟩
    refine ⟨_, rfl, a, _, rfl, sq_same hq t4, fun o H5 s5 ho => ?_⟩
    have t5 := Same.trans t4 s5
    have x5 := t5 _ _ hx
    refine ⟨_, rfl, x, C, dx, _, rfl, x5, PC.cls, PC.order, (show (0 : Nat) < 1000 by decide), ?_⟩
    have x6 : (upd H5 x (.ins C dx (putF "order" (.ref o) []))) x = some (.ins C dx [("order", .ref o)]) := upd_same
    have b6 := sq_ins (u := .ins C dx (putF "order" (.ref o) [])) (sq_same hb t5) x5
    have ht6 := (ht.same t5).ins (u := .ins C dx (putF "order" (.ref o) [])) x5
    have l6 := (hl.same t5).ins (u := .ins C dx (putF "order" (.ref o) [])) x5
    have o6 := sqt_ins (u := .ins C dx (putF "order" (.ref o) [])) ho x5
    have e6 : Ext x H (upd H5 x (.ins C dx (putF "order" (.ref o) []))) := fun c u hc hu => by
      rw [upd_ne hc]
      exact t5 _ _ hu
    revert x6 b6 ht6 l6 o6 e6
    generalize upd H5 x (.ins C dx (putF "order" (.ref o) [])) = H6
    intro x6 b6 ht6 l6 o6 e6
    refine ⟨_, rfl, b, _, rfl, b6, fun r H7 s7 hr7 => ?_⟩
    have x7 := s7 _ _ x6
    refine ⟨_, rfl, x, C, dx, _, rfl, x7, PC.cls, PC.rows, (show (1 : Nat) < 1000 by decide), ?_⟩
    have x8 : (upd H7 x (.ins C dx (putF "rows" (.ref r) [("order", .ref o)]))) x = some (.ins C dx [("order", .ref o), ("rows", .ref r)]) := upd_same
    have ht8 := (ht6.same s7).ins (u := .ins C dx (putF "rows" (.ref r) [("order", .ref o)])) x7
    have l8 := (l6.same s7).ins (u := .ins C dx (putF "rows" (.ref r) [("order", .ref o)])) x7
    have o8 := sqt_ins (u := .ins C dx (putF "rows" (.ref r) [("order", .ref o)])) (sqt_same o6 s7) x7
    have r8 := sqt_ins (u := .ins C dx (putF "rows" (.ref r) [("order", .ref o)])) hr7 x7
    have e8 : Ext x H (upd H7 x (.ins C dx (putF "rows" (.ref r) [("order", .ref o)]))) := fun c u hc hu => by
      rw [upd_ne hc]
      exact s7 _ _ (e6 c u hc hu)
    revert x8 ht8 l8 o8 r8 e8
    generalize upd H7 x (.ins C dx (putF "rows" (.ref r) [("order", .ref o)])) = H8
    intro x8 ht8 l8 o8 r8 e8
    have fin : ∀ (c : Addr) (H9 : Hp), Same H8 H9 → H9 c = some (.dK (capsV d.caps)) → Q .non (upd H9 x (.ins C dx (putF "caps" (.ref c) [("order", .ref o), ("rows", .ref r)]))) := by
      intro c H9 s9 hc
      have x9 := s9 _ _ x8
      refine q _ (fun y u hy hu => ?_) ⟨dx, o, r, c, ts, upd_same, sqt_ins (sqt_same o8 s9) x9, sqt_ins (sqt_same r8 s9) x9, (ht8.same s9).ins x9, keepI x9 hc (fun z => nomatch z)⟩
      rw [upd_ne hy]
      exact s9 _ _ (e8 y u hy hu)
    rcases l8 with ⟨rfl, e⟩ | ⟨c, rfl, hc⟩
    · refine ⟨_, rfl, rfl, _, rfl, fun c nc => ?_⟩
      have s9 : Same H8 (upd H8 c (.dK [])) := same_upd nc
      refine ⟨_, rfl, x, C, dx, _, rfl, s9 _ _ x8, PC.cls, PC.caps, (show (2 : Nat) < 1000 by decide), fin c _ s9 (by rw [upd_same, e]; rfl)⟩
    · refine ⟨_, rfl, rfl, _, rfl, ite2 (fun e => nomatch of_decide_eq_true e) (fun _ => ?_)⟩
      refine ⟨_, rfl, c, _, rfl, .inl hc, fun c2 nc => ?_⟩
      have s9 : Same H8 (upd H8 c2 (.dK (capsV d.caps))) := same_upd nc
      exact ⟨_, rfl, x, C, dx, _, rfl, s9 _ _ x8, PC.cls, PC.caps, (show (2 : Nat) < 1000 by decide), fin c2 _ s9 upd_same⟩

end
end Pk

set_option Elab.async false
set_option linter.all false
set_option maxRecDepth 100000
set_option maxHeartbeats 4000000
namespace Pk
open PySem PySem.Spec PyProof.Rows L2 Pu
section
variable {P : Program} {w : World} {K : PySem.W.Frag} {mg : Str → Option Value} {base : Heap}
/-! ### what a plan tells -/
def spPEvents (K : PySem.W.Frag) (C : Addr) : Sp := fun vs H Q _ => ∃ (p : Addr) (d : PlanD), vs = [.ref p] ∧ PlanAt K C H p d ∧ ∀ q, H q = none → Q (.ref q) (upd H q (.lst (d.evs.map V.str)))
theorem ok_p_events {C f : Addr} {fd : FuncData} (F : Fun K "events" "Plan.events" s_Plan_events f fd) (T : Txt mg) (PC : PlanC K C) : FnOk P w K mg base CX0 1 f fd ["self"] (spPEvents K C) := by
  have nd := sc_Plan_events.nd
  refine F.ok sc_Plan_events (fun vs H Q E h => ?_) (fun cdv A outer s H vs Q E hr h => ?_)
  · obtain ⟨_, _, rfl, _⟩ := h
    rfl
  · obtain ⟨p, d, rfl, hp, q⟩ := h
    obtain ⟨dx, o, r, c, ts, h1, h2, h3, h4, h5⟩ := hp.ex
    refine ⟨_, (pss_one (ps_ret (pe_callTy (lstOf K) (by rfl) T.m_list PyProof.Rows.boot_list (pa_cons (pe_fld (pv 0) rfl) pa_nil)))), ?_⟩
    exact ⟨_, rfl, p, C, dx, _, _, rfl, h1, PC.cls, PC.order, rfl, o, _, rfl, .inr h2, fun l nl => q l nl⟩
def spPTies (K : PySem.W.Frag) (C : Addr) : Sp := fun vs H Q _ => ∃ (p : Addr) (d : PlanD), vs = [.ref p] ∧ PlanAt K C H p d ∧ ∀ q ts, H q = none → TiesAt H ts d.ties → Q (.ref q) (upd H q (.lst (ts.map V.ref)))
theorem ok_p_ties {C f : Addr} {fd : FuncData} (F : Fun K "ties" "Plan.ties" s_Plan_ties f fd) (T : Txt mg) (PC : PlanC K C) : FnOk P w K mg base CX0 1 f fd ["self"] (spPTies K C) := by
  have nd := sc_Plan_ties.nd
  refine F.ok sc_Plan_ties (fun vs H Q E h => ?_) (fun cdv A outer s H vs Q E hr h => ?_)
  · obtain ⟨_, _, rfl, _⟩ := h
    rfl
  · obtain ⟨p, d, rfl, hp, q⟩ := h
    obtain ⟨dx, o, r, c, ts, h1, h2, h3, h4, h5⟩ := hp.ex
    refine ⟨_, (pss_one (ps_ret (pe_callTy (lstOf K) (by rfl) T.m_list PyProof.Rows.boot_list (pa_cons (pe_fld (pv 0) rfl) pa_nil)))), ?_⟩
    exact ⟨_, rfl, p, C, dx, _, _, rfl, h1, PC.cls, PC.rows, rfl, r, _, rfl, .inr h3, fun l nl => q l ts nl h4⟩
def spPLimits (K : PySem.W.Frag) (C : Addr) : Sp := fun vs H Q _ => ∃ (p : Addr) (d : PlanD), vs = [.ref p] ∧ PlanAt K C H p d ∧ ∀ q, H q = none → Q (.ref q) (upd H q (.dK (capsV d.caps)))
theorem ok_p_limits {C f : Addr} {fd : FuncData} (F : Fun K "limits" "Plan.limits" s_Plan_limits f fd) (T : Txt mg) (PC : PlanC K C) : FnOk P w K mg base CX0 1 f fd ["self"] (spPLimits K C) := by
  have nd := sc_Plan_limits.nd
  refine F.ok sc_Plan_limits (fun vs H Q E h => ?_) (fun cdv A outer s H vs Q E hr h => ?_)
  · obtain ⟨_, _, rfl, _⟩ := h
    rfl
  · obtain ⟨p, d, rfl, hp, q⟩ := h
    obtain ⟨dx, o, r, c, ts, h1, h2, h3, h4, h5⟩ := hp.ex
    refine ⟨_, (pss_one (ps_ret (pe_callTy call_dictD (by rfl) T.m_dict PyProof.Rows.boot_dict (pa_cons (pe_fld (pv 0) rfl) pa_nil)))), ?_⟩
    exact ⟨_, rfl, p, C, dx, _, _, rfl, h1, PC.cls, PC.caps, rfl, c, _, rfl, .inl h5, fun l nl => q l nl⟩
def spPLen (K : PySem.W.Frag) (C : Addr) : Sp := fun vs H Q _ => ∃ (p : Addr) (d : PlanD), vs = [.ref p] ∧ PlanAt K C H p d ∧ Q (.int (d.evs.length : Nat)) H
theorem ok_p_len {C f : Addr} {fd : FuncData} (F : Fun K "__len__" "Plan.__len__" s_Plan___len__ f fd) (T : Txt mg) (PC : PlanC K C) : FnOk P w K mg base CX0 1 f fd ["self"] (spPLen K C) := by
  have nd := sc_Plan___len__.nd
  refine F.ok sc_Plan___len__ (fun vs H Q E h => ?_) (fun cdv A outer s H vs Q E hr h => ?_)
  · obtain ⟨_, _, rfl, _⟩ := h
    rfl
  · obtain ⟨p, d, rfl, hp, q⟩ := h
    obtain ⟨dx, o, r, c, ts, h1, h2, h3, h4, h5⟩ := hp.ex
    refine ⟨_, (pss_one (ps_ret (pe_callB (lenK K) (by rfl) T.m_len PySem.boot_len (pa_cons (pe_fld (pv 0) rfl) pa_nil)))), ?_⟩
    refine ⟨_, rfl, p, C, dx, _, _, rfl, h1, PC.cls, PC.order, rfl, .inl ⟨o, _, rfl, .inr h2, ?_⟩⟩
    rw [List.length_map]
    exact q
def spPIn (K : PySem.W.Frag) (C : Addr) : Sp := fun vs H Q _ => ∃ (p : Addr) (v : V) (d : PlanD), vs = [.ref p, v] ∧ PlanAt K C H p d ∧ ((∃ e, v = .str e ∧ Q (.bl (decide (e ∈ d.evs))) H) ∨ ∃ t, TyX K H v t ∧ PySem.W.kitOne K t (.type "str") = some false ∧ Q (.bl false) H)
theorem ok_p_in {C f : Addr} {fd : FuncData} (F : Fun K "__contains__" "Plan.__contains__" s_Plan___contains__ f fd) (T : Txt mg) (PC : PlanC K C) : FnOk P w K mg base CX0 1 f fd ["self", "value"] (spPIn K C) := by
  have nd := sc_Plan___contains__.nd
  refine F.ok sc_Plan___contains__ (fun vs H Q E h => ?_) (fun cdv A outer s H vs Q E hr h => ?_)
  · obtain ⟨_, _, _, rfl, _⟩ := h
    rfl
  · obtain ⟨p, v, d, rfl, hp, q⟩ := h
    obtain ⟨dx, o, r, c, ts, h1, h2, h3, h4, h5⟩ := hp.ex
    refine ⟨_, (pss_one (ps_ret (pe_and (pe_callB (isiK K) (by rfl) T.m_isinstance PyProof.Rows.boot_isinstance (pa_cons (pv 1) (pa_cons (pe_bltn (v := .ty "str") rfl T.m_str PyProof.Rows.boot_str rfl) pa_nil))) (pe_one (pe_cmpR (oIn K) (pv 1) (pe_fld (pv 0) rfl) (by rfl)))))), ?_⟩
    rcases q with ⟨e, rfl, q⟩ | ⟨t, ht, hk, q⟩
    · refine ⟨_, rfl, _, _, _, _, _, rfl, .ty _, .base (.str e), kity true (by decide) (by decide) rfl, _, rfl, ?_⟩
      refine ⟨_, rfl, _, rfl, p, C, dx, _, _, rfl, h1, PC.cls, PC.order, rfl, .inr ⟨o, _, rfl, .inr h2, rfl, flat_strs _, ?_⟩⟩
      show Q (.bl (inV (.str e) (d.evs.map V.str))) H
      rw [inV_strs]
      exact q
    · exact ⟨_, rfl, _, _, _, _, _, rfl, .ty _, ht, hk, _, rfl, q⟩

end
end Pk

set_option Elab.async false
set_option linter.all false
set_option maxRecDepth 100000
set_option maxHeartbeats 4000000
namespace Pk
open PySem PySem.Spec PyProof.Rows L2 Pu
open PySem.Er (ErrTxt)
section
variable {P : Program} {w : World} {K : PySem.W.Frag} {mg : Str → Option Value} {base : Heap}
/-! ### plans as arguments -/
structure PlanI (K : PySem.W.Frag) (C : Addr) : Prop extends PlanC K C where
  ha : PySem.W.findIn K (.ref C) "__class__" = some (some (.builtin "object.__class__"))
  hn : PySem.W.specialIn K (.builtin "object.__class__") "__get__" = some (some (.builtin "getset_descriptor.__get__"))
  htk : PySem.W.takesIn K (.builtin "object.__class__") = some true
  hm : PySem.W.mroIn K C (.type "object") = some true
  isi : PySem.W.kitOne K (.ref C) (.ref C) = some true
theorem PlanAt.ty {C : Addr} {H : Hp} {p : Addr} {d : PlanD} (h : PlanAt K C H p d) (PI : PlanI K C) : TyX K H (.ref p) (.ref C) := by
  obtain ⟨dx, o, r, c, ts, h1, _⟩ := h.ex
  exact .base (.ins h1 PI.cls PI.ha PI.hn PI.htk PI.hm)
/-- no plan -/
def NoPlan (K : PySem.W.Frag) (C : Addr) (H : Hp) (v : V) : Prop := ∃ t, TyX K H v t ∧ PySem.W.kitOne K t (.ref C) = some false
/-- the error e of the class CE with the field f -/
abbrev Out (CE : Addr) (f : Str) (v : V) (E : XK) (H : Hp) : Prop := ∀ dd, H dd = none → E (.ref CE) (some dd) (upd H dd (.xd [(f, v)]))
def spNeedPlan (K : PySem.W.Frag) (C CE : Addr) : Sp := fun vs H Q E => ∃ v, vs = [v] ∧ ((∃ p d, v = .ref p ∧ PlanAt K C H p d ∧ Q .non H) ∨ (NoPlan K C H v ∧ Out CE "value" v E H))
theorem ok_need_plan {C CE fE f : Addr} {fd : FuncData} (F : Fun K "need_plan" "need_plan" s_need_plan f fd) (T : Txt mg) (PI : PlanI K C) (m_Plan : mg "Plan" = some (.ref C)) (e_InvalidPlan : ErrTxt K mg "InvalidPlan" "value" CE fE) :
    FnOk P w K mg base (L2.CX P w) 1 f fd ["plan"] (spNeedPlan K C CE) := by
  have nd := sc_need_plan.nd
  refine F.okX sc_need_plan (fun vs H Q E h => ?_) (fun cdv A outer s H vs Q E hr h => ?_)
  · obtain ⟨_, rfl, _⟩ := h
    rfl
  · obtain ⟨v, rfl, h⟩ := h
    refine ⟨_, (pss_one (ps_if (pt_not (pt_val (pe_callB (isiK K) (by rfl) T.m_isinstance PyProof.Rows.boot_isinstance (pa_cons (pv 0) (pa_cons (pe_cls rfl m_Plan) pa_nil)))))
      (pss_one (ps_raiseE rfl e_InvalidPlan hr (takes_of rfl rfl rfl rfl) (pa_cons (pv 0) pa_nil) rfl)) pss_nil)), ?_⟩
    rcases h with ⟨p, d, rfl, hp, q⟩ | ⟨⟨t, ht, hk⟩, e⟩
    · exact ⟨_, rfl, _, _, _, _, _, rfl, .own _, hp.ty PI, PI.isi, _, rfl, q⟩
    · exact ⟨_, rfl, _, _, _, _, _, rfl, .own _, ht, hk, _, rfl, _, rfl, _, rfl, e⟩
/-! ### methods of the class -/
structure CalM (P : Program) (w : World) (K : PySem.W.Frag) (mg : Str → Option Value) (base : Heap) (k : Nat) (C : Addr) (m : Str) (sp : Sp) : Prop where
  ex : ∃ (f : Addr) (fd : FuncData) (ps : List Str), FnOk P w K mg base CX0 k f fd ps sp ∧ Binds K fd ps [] ∧ PySem.W.findIn K (.ref C) m = some (some (.ref f)) ∧ PySem.W.isFn K (.ref f) = true ∧ PySem.W.keepIn K (.ref f) = true
theorem CalM.own {X : Cx} {k : Nat} {C : Addr} {m : Str} {sp : Sp} (c : CalM X.prog X.w X.K X.mg X.base k C m sp) : Own X CX0 k C m sp := by
  obtain ⟨f, fd, ps, h1, h2, h3, h4, h5⟩ := c.ex
  exact ⟨f, fd, ps, h1, h2, h3, h4⟩
theorem pe_m0' {X : Cx} {k j : Nat} {C : Addr} {m : Str} {sp : Sp} {o : Expr} {ta : TE} {apos pos : Pos} {pl : Sem Bool} (he : PE X o ta) (cl : Cls X.K C) (c : CalM X.prog X.w X.K X.mg X.base k C m sp) (hr : Room j X.A) (hk : k ≤ j)
    (ht : eval (.Call (.Attribute o m apos) [] [] pos) X.env = (do
      let ov ← eval o X.env
      standAt apos.atName
      let (f, first) ← holding [ov] (getMethod ov m pl)
      callWith pos f first (backTo pos (starEach [] X.env)) (backToKw pos (keywordEach [] X.env))) := by rfl) : PE X (.Call (.Attribute o m apos) [] [] pos) (tMeth C m sp [] E0 ta tNil) := by
  obtain ⟨f, fd, ps, h1, h2, h3, h4, h5⟩ := c.ex
  exact pe_meth0 he cl ⟨h3, h4, h5⟩ h1 (hr.mono hk) h2 .nil pass0 ht

end
end Pk

set_option Elab.async false
set_option linter.all false
set_option maxRecDepth 100000
set_option maxHeartbeats 4000000
/-! comprehensions whose items are told one by one, over heaps that only grow -/
namespace Pu
open PySem PySem.Spec PyProof.Rows L2
theorem same_put {H1 H'' : Hp} {D : Addr} {o : HO} (hD : H1 D = none) (s : Same H1 H'') : Same H1 (upd H'' D o) := fun b u hb => by
  rw [upd_ne (ne_of_none hb hD)]
  exact s b u hb
section
variable {J : It} {G : Hp → Prop} {α : Type} {xs : List α} {v f : α → V} {keep : α → Bool} {D : Addr} {H1 : Hp} {tt : TT} {te : TE} {i : Nat} {vs : List Nat} {σ : L2.St} {Qd : Hp → Prop}
/-- [f x for x in xs if keep x] -/
theorem lc_fm (w : Walk J xs.length G (YAt (xs.map v))) (hD : H1 D = none) (hG : ∀ H', Same H1 H' → G H') (hz : xs.length < sizeLine) (keep : α → Bool) (f : α → V)
    (hw : ∀ x, wipe ((wipe σ vs).set i (some x)) vs = wipe σ vs)
    (step : ∀ x, x ∈ xs → ∀ H', Same H1 H' → ∀ (N : VK) (M : Hp → Prop), (keep x = true → ∀ H'', Same H' H'' → N (f x) H'') → (keep x = false → ∀ H'', Same H' H'' → M H'') →
      tt ((wipe σ vs).set i (some (v x))) H' fun b H3 => if b = true then te ((wipe σ vs).set i (some (v x))) H3 N else M H3)
    (fin : ∀ H', Same H1 H' → H' D = some (.lst ((xs.filter keep).map f)) → Qd H') :
    ∃ W : Nat → Nat → Hp → Prop, (∃ m, W 0 m (upd H1 D (.lst []))) ∧ ∀ i' m H, W i' m H →
      (J.stop i' H ∧ Qd H) ∨ (J.go i' H ∧ ∃ Nx : Hp → Prop, (∀ H', Nx H' → ∃ m', m' < m ∧ W (i' + 1) m' H') ∧ ∀ x H', J.yld i' H x H' → gName i x (wipe σ vs) H' fun σ2 H2 => wipe σ2 vs = wipe σ vs ∧ tt σ2 H2 fun b H3 =>
        if b = true then te σ2 H3 fun y H4 => ∃ acc, H4 D = some (.lst acc) ∧ acc.length < sizeLine ∧ Nx (upd H4 D (.lst (acc ++ [y]))) else Nx H3) := by
  refine lc_it w (fun j H' => Same H1 H' ∧ H' D = some (.lst (((xs.take j).filter keep).map f))) ⟨same_upd hD, upd_same⟩ (fun j H' _ p => hG H' p.1) (fun j x H' H'' hj pv yv => ?_) (fun H' pv => ?_)
  · obtain ⟨rfl, hx⟩ := yv
    rw [List.getElem?_map, List.getElem?_eq_getElem hj] at hx
    cases hx
    refine ⟨hw _, step xs[j] (List.getElem_mem hj) H'' pv.1 _ _ (fun hk H3 s3 => ?_) fun hk H3 s3 => ?_⟩
    · refine ⟨_, s3 _ _ pv.2, ?_, same_put hD (Same.trans pv.1 s3), ?_⟩
      · rw [List.length_map]
        refine Nat.lt_of_le_of_lt (List.length_filter_le _ _) ?_
        rw [List.length_take]
        exact Nat.lt_of_le_of_lt (Nat.min_le_right _ _) hz
      · rw [upd_same, List.take_add_one, List.getElem?_eq_getElem hj, List.filter_append, List.map_append]
        show some (HO.lst (_ ++ [f xs[j]])) = some (.lst (_ ++ (List.filter _ [xs[j]]).map f))
        rw [List.filter_cons, if_pos hk]
        rfl
    · refine ⟨Same.trans pv.1 s3, ?_⟩
      rw [List.take_add_one, List.getElem?_eq_getElem hj, List.filter_append]
      show _ = some (HO.lst ((_ ++ List.filter _ [xs[j]]).map f))
      rw [List.filter_cons, if_neg (by rw [hk]; decide), List.filter_nil, List.append_nil]
      exact s3 _ _ pv.2
  · refine fin H' pv.1 ?_
    rw [pv.2, List.take_length]
/-- [f x for x in xs] -/
theorem lc_map (w : Walk J xs.length G (YAt (xs.map v))) (hD : H1 D = none) (hG : ∀ H', Same H1 H' → G H') (hz : xs.length < sizeLine) (f : α → V)
    (hw : ∀ x, wipe ((wipe σ vs).set i (some x)) vs = wipe σ vs)
    (step : ∀ x, x ∈ xs → ∀ H', Same H1 H' → ∀ (N : VK), (∀ H'', Same H' H'' → N (f x) H'') → te ((wipe σ vs).set i (some (v x))) H' N)
    (fin : ∀ H', Same H1 H' → H' D = some (.lst (xs.map f)) → Qd H') :
    ∃ W : Nat → Nat → Hp → Prop, (∃ m, W 0 m (upd H1 D (.lst []))) ∧ ∀ i' m H, W i' m H →
      (J.stop i' H ∧ Qd H) ∨ (J.go i' H ∧ ∃ Nx : Hp → Prop, (∀ H', Nx H' → ∃ m', m' < m ∧ W (i' + 1) m' H') ∧ ∀ x H', J.yld i' H x H' → gName i x (wipe σ vs) H' fun σ2 H2 => wipe σ2 vs = wipe σ vs ∧ tYes σ2 H2 fun b H3 =>
        if b = true then te σ2 H3 fun y H4 => ∃ acc, H4 D = some (.lst acc) ∧ acc.length < sizeLine ∧ Nx (upd H4 D (.lst (acc ++ [y]))) else Nx H3) := by
  refine lc_fm (keep := fun _ => true) (f := f) w hD hG hz hw (fun x hx H' s N M h1 h2 => step x hx H' s N (h1 rfl)) fun H' s h => fin H' s ?_
  rw [h, List.filter_eq_self.mpr fun _ _ => rfl]
theorem putK_fresh {κ : Type} [DecidableEq κ] {kvs : List (κ × V)} {k : κ} {z : V} (h : ∀ p ∈ kvs, p.1 ≠ k) : putK kvs k z = kvs ++ [(k, z)] := by
  unfold putK
  rw [if_neg ?_]
  intro e
  obtain ⟨p, hp, e2⟩ := List.any_eq_true.mp e
  exact h p hp (of_decide_eq_true e2)
end
theorem cb1 {r : List V → Hp → VK → Prop} {te : TE} {σ : L2.St} {H : Hp} {Q : VK} (h : te σ H fun x H1 => r [x] H1 Q) : tCB r (tCons te tNil) σ H Q := h
theorem if_b {t : TE} {a b : TS} {D : Ends} {σ : L2.St} {H : Hp} (h : t σ H fun x H1 => ∃ c, x = .bl c ∧ (if c = true then a D σ H1 else b D σ H1)) : tIfS (tB t) a b D σ H := h
theorem if_test {t : TE} {a b : TS} {D : Ends} {σ : L2.St} {H : Hp} (h : t σ H fun x H1 => ∃ c, x = .bl c ∧ (if c = true then a D σ H1 else b D σ H1)) : tIfS (tTest t) a b D σ H := h
theorem if_not {t : TE} {a b : TS} {D : Ends} {σ : L2.St} {H : Hp} (h : t σ H fun x H1 => ∃ c, x = .bl c ∧ (if (!c) = true then a D σ H1 else b D σ H1)) : tIfS (tNot (tB t)) a b D σ H := h
theorem next_of {D : Ends} {σ : L2.St} {H : Hp} (h : D.nx σ H) : tNext D σ H := h
section
variable {D : Addr} {H1 : Hp} {te : TE} {i : Nat} {vs : List Nat} {σ : L2.St} {Qd : Hp → Prop} {n : Nat}
/-- [f k for k in range(n)] -/
theorem lc_rng (hD : H1 D = none) (hz : n < sizeLine) (f : Nat → V)
    (hw : ∀ x, wipe ((wipe σ vs).set i (some x)) vs = wipe σ vs)
    (step : ∀ k : Nat, k < n → ∀ H', Same H1 H' → ∀ (N : VK), (∀ H'', Same H' H'' → N (f k) H'') → te ((wipe σ vs).set i (some (.int k))) H' N)
    (fin : ∀ H', Same H1 H' → H' D = some (.lst ((List.range n).map f)) → Qd H') :
    ∃ W : Nat → Nat → Hp → Prop, (∃ m, W 0 m (upd H1 D (.lst []))) ∧ ∀ i' m H, W i' m H →
      ((Itr 0 n).stop i' H ∧ Qd H) ∨ ((Itr 0 n).go i' H ∧ ∃ Nx : Hp → Prop, (∀ H', Nx H' → ∃ m', m' < m ∧ W (i' + 1) m' H') ∧ ∀ x H', (Itr 0 n).yld i' H x H' → gName i x (wipe σ vs) H' fun σ2 H2 => wipe σ2 vs = wipe σ vs ∧ tYes σ2 H2 fun b H3 =>
        if b = true then te σ2 H3 fun y H4 => ∃ acc, H4 D = some (.lst acc) ∧ acc.length < sizeLine ∧ Nx (upd H4 D (.lst (acc ++ [y]))) else Nx H3) := by
  refine lc_range (lo := 0) (fun j H' => Same H1 H' ∧ j ≤ n ∧ H' D = some (.lst ((List.range j).map f))) ⟨same_upd hD, Nat.zero_le _, upd_same⟩ (fun j H' hj pv => ?_) (fun H' pv => fin H' pv.1 pv.2.2)
  rw [Int.zero_add]
  refine ⟨hw _, step j hj H' pv.1 _ fun H3 s3 => ⟨_, s3 _ _ pv.2.2, ?_, same_put hD (Same.trans pv.1 s3), hj, ?_⟩⟩
  · rw [List.length_map, List.length_range]
    exact Nat.lt_trans hj hz
  · rw [upd_same, List.range_succ, List.map_append]
    rfl
end
section
variable {J : It} {G : Hp → Prop} {α : Type} {xs : List α} {v : α → V} {D : Addr} {H1 : Hp} {te : TE} {i : Nat} {vs : List Nat} {σ : L2.St} {Qd : Hp → Prop}
theorem paired_snoc {α β : Type} {F : α → β → Prop} {xs : List α} {ys : List β} {x : α} {y : β} (h : Paired F xs ys) (k : F x y) : Paired F (xs ++ [x]) (ys ++ [y]) := by
  induction h with
  | nil => exact .cons k .nil
  | cons r _ ih => exact .cons r ih
theorem paired_mono {α β : Type} {F G : α → β → Prop} {xs : List α} {ys : List β} (h : Paired F xs ys) (k : ∀ x y, F x y → G x y) : Paired G xs ys := by
  induction h with
  | nil => exact .nil
  | cons r _ ih => exact .cons (k _ _ r) ih
/-- [something made of x for x in xs] -/
theorem lc_obj (w : Walk J xs.length G (YAt (xs.map v))) (hD : H1 D = none) (hG : ∀ H', Same H1 H' → G H') (hz : xs.length < sizeLine) (R : V → α → Hp → Prop) (mono : ∀ y x H H', R y x H → Same H H' → R y x H')
    (hw : ∀ x, wipe ((wipe σ vs).set i (some x)) vs = wipe σ vs)
    (put : ∀ y x (H : Hp) o, R y x H → (∃ ys, H D = some (.lst ys)) → R y x (upd H D (.lst o)))
    (step : ∀ x, x ∈ xs → ∀ H', Same H1 H' → ∀ (N : VK), (∀ y H'', Same H' H'' → R y x H'' → N y H'') → te ((wipe σ vs).set i (some (v x))) H' N)
    (fin : ∀ ys H', Same H1 H' → H' D = some (.lst ys) → Paired (fun y x => R y x H') ys xs → Qd H') :
    ∃ W : Nat → Nat → Hp → Prop, (∃ m, W 0 m (upd H1 D (.lst []))) ∧ ∀ i' m H, W i' m H →
      (J.stop i' H ∧ Qd H) ∨ (J.go i' H ∧ ∃ Nx : Hp → Prop, (∀ H', Nx H' → ∃ m', m' < m ∧ W (i' + 1) m' H') ∧ ∀ x H', J.yld i' H x H' → gName i x (wipe σ vs) H' fun σ2 H2 => wipe σ2 vs = wipe σ vs ∧ tYes σ2 H2 fun b H3 =>
        if b = true then te σ2 H3 fun y H4 => ∃ acc, H4 D = some (.lst acc) ∧ acc.length < sizeLine ∧ Nx (upd H4 D (.lst (acc ++ [y]))) else Nx H3) := by
  refine lc_it w (fun j H' => Same H1 H' ∧ ∃ ys, H' D = some (.lst ys) ∧ ys.length ≤ j ∧ Paired (fun y x => R y x H') ys (xs.take j)) ⟨same_upd hD, [], upd_same, Nat.le_refl _, .nil⟩ (fun j H' _ p => hG H' p.1) (fun j x H' H'' hj pv yv => ?_) (fun H' pv => ?_)
  · obtain ⟨rfl, hx⟩ := yv
    rw [List.getElem?_map, List.getElem?_eq_getElem hj] at hx
    cases hx
    obtain ⟨s1, ys, hy, hl, hp⟩ := pv
    refine ⟨hw _, step xs[j] (List.getElem_mem hj) H'' s1 _ fun y H3 s3 hr => ⟨ys, s3 _ _ hy, by omega, same_put hD (Same.trans s1 s3), ys ++ [y], upd_same, by rw [List.length_append]; show _ + 1 ≤ _; omega, ?_⟩⟩
    rw [List.take_add_one, List.getElem?_eq_getElem hj]
    exact paired_snoc (paired_mono hp fun a b h => put _ _ _ _ (mono _ _ _ _ h s3) ⟨ys, s3 _ _ hy⟩) (put _ _ _ _ hr ⟨ys, s3 _ _ hy⟩)
  · obtain ⟨s1, ys, hy, hl, hp⟩ := pv
    rw [List.take_length] at hp
    exact fin ys H' s1 hy hp
end
section
variable {D : Addr} {H1 : Hp} {te : TE} {i : Nat} {vs : List Nat} {σ : L2.St} {Qd : Hp → Prop} {n : Nat}
/-- [something made at k for k in range(n)] -/
theorem lc_rngO (hD : H1 D = none) (hz : n < sizeLine) (R : V → Nat → Hp → Prop) (mono : ∀ y k H H', R y k H → Same H H' → R y k H') (put : ∀ y k (H : Hp) o, R y k H → H1 D = none → (∃ ys, H D = some (.lst ys)) → Same H1 H → R y k (upd H D (.lst o)))
    (hw : ∀ x, wipe ((wipe σ vs).set i (some x)) vs = wipe σ vs)
    (step : ∀ k : Nat, k < n → ∀ H', Same H1 H' → (∃ ys, H' D = some (.lst ys) ∧ ys.length = k ∧ ∀ j y, ys[j]? = some y → R y j H') → ∀ (N : VK), (∀ y H'', Same H' H'' → R y k H'' → N y H'') → te ((wipe σ vs).set i (some (.int k))) H' N)
    (fin : ∀ ys H', Same H1 H' → H' D = some (.lst ys) → ys.length = n → (∀ k y, ys[k]? = some y → R y k H') → Qd H') :
    ∃ W : Nat → Nat → Hp → Prop, (∃ m, W 0 m (upd H1 D (.lst []))) ∧ ∀ i' m H, W i' m H →
      ((Itr 0 n).stop i' H ∧ Qd H) ∨ ((Itr 0 n).go i' H ∧ ∃ Nx : Hp → Prop, (∀ H', Nx H' → ∃ m', m' < m ∧ W (i' + 1) m' H') ∧ ∀ x H', (Itr 0 n).yld i' H x H' → gName i x (wipe σ vs) H' fun σ2 H2 => wipe σ2 vs = wipe σ vs ∧ tYes σ2 H2 fun b H3 =>
        if b = true then te σ2 H3 fun y H4 => ∃ acc, H4 D = some (.lst acc) ∧ acc.length < sizeLine ∧ Nx (upd H4 D (.lst (acc ++ [y]))) else Nx H3) := by
  refine lc_range (lo := 0) (fun j H' => Same H1 H' ∧ j ≤ n ∧ ∃ ys, H' D = some (.lst ys) ∧ ys.length = j ∧ ∀ k y, ys[k]? = some y → R y k H') ⟨same_upd hD, Nat.zero_le _, [], upd_same, rfl, fun k y h => by simp at h⟩ (fun j H' hj pv => ?_) (fun H' pv => ?_)
  · obtain ⟨s1, _, ys, hy, hl, hR⟩ := pv
    rw [Int.zero_add]
    refine ⟨hw _, step j hj H' s1 ⟨ys, hy, hl, hR⟩ _ fun y H3 s3 hr => ⟨ys, s3 _ _ hy, by omega, same_put hD (Same.trans s1 s3), hj, ys ++ [y], upd_same, by rw [List.length_append, hl]; rfl, fun k z hk => ?_⟩⟩
    have s13 := Same.trans s1 s3
    rcases Nat.lt_or_ge k ys.length with h | h
    · rw [List.getElem?_append_left h] at hk
      exact put _ _ _ _ (mono _ _ _ _ (hR k z hk) s3) hD ⟨_, s3 _ _ hy⟩ s13
    · rw [List.getElem?_append_right h] at hk
      have h0 : k - ys.length = 0 := by
        cases hh : k - ys.length with
        | zero => rfl
        | succ m => rw [hh] at hk; simp at hk
      rw [h0] at hk
      have hkj : k = j := by omega
      cases hk
      subst hkj
      exact put _ _ _ _ hr hD ⟨_, s3 _ _ hy⟩ s13
  · obtain ⟨s1, _, ys, hy, hl, hR⟩ := pv
    exact fin ys H' s1 hy hl hR
end
/-! the last arguments by name, so that a promise is in sight -/
theorem nil_of {σ : L2.St} {H : Hp} {Q : List V → Hp → Prop} (h : Q [] H) : tNil σ H Q := h
theorem lastc {v : V} {σ : L2.St} {H : Hp} {Q : List V → Hp → Prop} (h : Q [v] H) : tCons (tC v) tNil σ H Q := h
end Pu

set_option Elab.async false
set_option linter.all false
set_option maxRecDepth 100000
set_option maxHeartbeats 4000000
/-! texts by their signs -/
namespace Pu
open PySem PySem.Spec PyProof.Rows L2
def cs (z : Str) : List Nat := z.cps.toList
theorem cs_len (z : Str) : (cs z).length = z.length := by
  show z.cps.toList.length = z.cps.size
  rw [Array.length_toList]
theorem cs_app (x y : Str) : cs (x ++ y) = cs x ++ cs y := Array.toList_append
theorem cs_one (c : Nat) : cs ⟨#[c]⟩ = [c] := rfl
theorem cs_nil : cs ("" : Str) = [] := rfl
theorem cs_ext {x y : Str} (h : cs x = cs y) : x = y := by
  obtain ⟨a⟩ := x
  obtain ⟨b⟩ := y
  have e : a = b := Array.toList_inj.mp h
  rw [e]
theorem cs_to (z : Str) (i : Nat) : cs (cutS z none (some (i : Int))) = (cs z).take i := by
  show (List.toArray _).toList = _
  rw [HT.sIx_none, HT.sIx_nat, List.drop_zero, Nat.sub_zero]
  show z.cps.toList.take (min i z.cps.size) = z.cps.toList.take i
  rw [← Array.length_toList, ← List.take_take, List.take_length]
theorem cs_from (z : Str) (i : Nat) : cs (cutS z (some (i : Int)) none) = (cs z).drop i := by
  show (List.toArray _).toList = _
  rw [HT.sIx_none, HT.sIx_nat]
  have hl : z.length = z.cps.toList.length := by rw [Array.length_toList]; rfl
  show (z.cps.toList.drop (min i z.length)).take (z.length - min i z.length) = z.cps.toList.drop i
  rw [hl, List.take_of_length_le (by rw [List.length_drop]; exact Nat.le_refl _)]
  by_cases h : i ≤ z.cps.toList.length
  · rw [Nat.min_eq_left h]
  · rw [Nat.min_eq_right (by omega), List.drop_of_length_le (Nat.le_refl _), List.drop_of_length_le (by omega)]
theorem cs_join0 : ∀ ys : List Str, cs (Txt.join ("" : Str) ys) = ys.flatMap cs := by
  intro ys
  rw [show Txt.join ("" : Str) ys = PySem.Str.join ("" : Str) ys from PySem.StrLaws.glued_eq_join _ _]
  induction ys with
  | nil => rfl
  | cons x r ih =>
    cases r with
    | nil =>
      show cs x = cs x ++ []
      rw [List.append_nil]
    | cons y r =>
      show cs (x ++ ("" : Str) ++ PySem.Str.join ("" : Str) (y :: r)) = _
      rw [cs_app, cs_app, ih, cs_nil, List.append_nil]
      rfl
/-- made of the letters alone -/
def Low (z : Str) : Prop := ∀ c ∈ cs z, c ∈ cs ("abcdefghijklmnopqrstuvwxyz" : Str)
theorem low_app {x y : Str} (hx : Low x) (hy : Low y) : Low (x ++ y) := by
  intro c hc
  rw [cs_app] at hc
  exact (List.mem_append.mp hc).elim (hx c) (hy c)
theorem low_one {c : Nat} (h : c ∈ cs ("abcdefghijklmnopqrstuvwxyz" : Str)) : Low ⟨#[c]⟩ := by
  intro d hd
  rw [cs_one] at hd
  rw [List.mem_singleton.mp hd]
  exact h
theorem low_cut {z : Str} (h : Low z) (lo hi : Option Int) : Low (cutS z lo hi) := fun c hc => h c (List.mem_of_mem_drop (List.mem_of_mem_take hc))
theorem low_join {ys : List Str} (h : ∀ y ∈ ys, Low y) : Low (Txt.join ("" : Str) ys) := by
  intro c hc
  rw [cs_join0] at hc
  obtain ⟨y, hy, hc2⟩ := List.mem_flatMap.mp hc
  exact h y hy c hc2
/-- texts of which no two end with the same sign differ -/
theorem last_ne {x y : Str} {c d : Nat} (h : c ≠ d) : x ++ (⟨#[c]⟩ : Str) ≠ y ++ (⟨#[d]⟩ : Str) := by
  intro e
  have e2 := congrArg cs e
  rw [cs_app, cs_app, cs_one, cs_one] at e2
  have e3 := congrArg List.getLast? e2
  rw [List.getLast?_append, List.getLast?_append] at e3
  exact h (Option.some.inj e3)
/-- nor do texts that differ in a sign within -/
theorem mid_ne {x y : Str} {c d : Nat} {i : Nat} (h : c ≠ d) : cutS x none (some (i : Int)) ++ (⟨#[c]⟩ : Str) ++ y ≠ cutS x none (some (i : Int)) ++ (⟨#[d]⟩ : Str) ++ y := by
  intro e
  have e2 := congrArg cs e
  rw [cs_app, cs_app, cs_app, cs_app, cs_one, cs_one, List.append_assoc, List.append_assoc] at e2
  have e3 := List.append_cancel_left e2
  exact h (List.cons.inj e3).1
/-- the letters that lie three apart, from a drawn one on -/
def let3 (s : Int) (k : Nat) : Nat := (cs ("abcdefghijklmnopqrstuvwxyz" : Str)).getD (((s + 3 * (k : Int)) % 26).toNat) 0
theorem abc_inj : ∀ i < 26, ∀ j < 26, (cs ("abcdefghijklmnopqrstuvwxyz" : Str)).getD i 0 = (cs ("abcdefghijklmnopqrstuvwxyz" : Str)).getD j 0 → i = j := by decide +kernel
theorem let3_ne {s : Int} {j k : Nat} (hj : j < 9) (hk : k < 9) (h : j ≠ k) : let3 s j ≠ let3 s k := by
  intro e
  have h1 := Int.emod_nonneg (s + 3 * (j : Int)) (show (26 : Int) ≠ 0 by decide)
  have h2 := Int.emod_lt_of_pos (s + 3 * (j : Int)) (show (0 : Int) < 26 by decide)
  have h3 := Int.emod_nonneg (s + 3 * (k : Int)) (show (26 : Int) ≠ 0 by decide)
  have h4 := Int.emod_lt_of_pos (s + 3 * (k : Int)) (show (0 : Int) < 26 by decide)
  have := abc_inj _ (by omega) _ (by omega) e
  omega
theorem let3_in {s : Int} {k : Nat} : atI (cs ("abcdefghijklmnopqrstuvwxyz" : Str)) ((s + 3 * (k : Int)) % 26) = some (let3 s k) ∧ let3 s k ∈ cs ("abcdefghijklmnopqrstuvwxyz" : Str) := by
  have h1 := Int.emod_nonneg (s + 3 * (k : Int)) (show (26 : Int) ≠ 0 by decide)
  have h2 := Int.emod_lt_of_pos (s + 3 * (k : Int)) (show (0 : Int) < 26 by decide)
  obtain ⟨v, hv, hm⟩ := pickN (xs := cs ("abcdefghijklmnopqrstuvwxyz" : Str)) h1 (by show _ < (26 : Int); exact h2)
  have e : v = let3 s k := by
    have h5 : atI (cs ("abcdefghijklmnopqrstuvwxyz" : Str)) (((((s + 3 * (k : Int)) % 26).toNat : Nat) : Int)) = some v := by
      rw [Int.toNat_of_nonneg h1]
      exact hv
    have hlt : ((s + 3 * (k : Int)) % 26).toNat < (cs ("abcdefghijklmnopqrstuvwxyz" : Str)).length := by
      show _ < 26
      omega
    rw [atI_nat (List.getElem?_eq_getElem hlt)] at h5
    unfold let3
    rw [List.getD_eq_getElem?_getD, List.getElem?_eq_getElem hlt]
    exact (Option.some.inj h5).symm
  rw [← e]
  exact ⟨hv, hm⟩
end Pu
namespace Pu
open PySem PySem.Spec PyProof.Rows L2
theorem Ext.fresh {b D : Addr} {H H' : Hp} {n : Int} (e : Ext b H H') (B : Box H' b n) (h : H' D = none) : H D = none := by
  cases hh : H D with
  | none => rfl
  | some o =>
    rw [e D o (B.ne h).symm hh] at h
    cases h
/-- letters drawn one by one -/
theorem word_lc {b D : Addr} {n : Int} {m : Nat} {H1 : Hp} {g : TG} {tt : TT} {te : TE} {vs : List Nat} {σ : L2.St} {Qd : Hp → Prop} (hD : H1 D = none) (B : Box H1 b n) (hm : m ≤ 8)
    (step : ∀ (i : Nat) (H' : Hp), i < m → Box H' b (n + i) → ∀ (N : VK) (M : Hp → Prop), (∀ c H'', c ∈ cs ("abcdefghijklmnopqrstuvwxyz" : Str) → Box H'' b (n + i + 1) → Ext b H' H'' → N (.str ⟨#[c]⟩) H'') →
      g (.int (0 + i)) (wipe σ vs) H' fun σ2 H2 => wipe σ2 vs = wipe σ vs ∧ tt σ2 H2 fun b H3 => if b = true then te σ2 H3 N else M H3)
    (fin : ∀ (ys : List Str) (H' : Hp), Box H' b (n + m) → Ext b H1 H' → ys.length = m → (∀ y ∈ ys, y.length = 1 ∧ Low y) → H' D = some (.lst (ys.map V.str)) → Qd H') :
    ∃ W : Nat → Nat → Hp → Prop, (∃ m, W 0 m (upd H1 D (.lst []))) ∧ ∀ i m' H, W i m' H →
      ((Itr 0 m).stop i H ∧ Qd H) ∨ ((Itr 0 m).go i H ∧ ∃ Nx : Hp → Prop, (∀ H', Nx H' → ∃ m'', m'' < m' ∧ W (i + 1) m'' H') ∧ ∀ x H', (Itr 0 m).yld i H x H' → g x (wipe σ vs) H' fun σ2 H2 => wipe σ2 vs = wipe σ vs ∧ tt σ2 H2 fun b H3 =>
        if b = true then te σ2 H3 fun y H4 => ∃ acc, H4 D = some (.lst acc) ∧ acc.length < sizeLine ∧ Nx (upd H4 D (.lst (acc ++ [y]))) else Nx H3) := by
  have hbD : b ≠ D := B.ne hD
  refine lc_range (fun i H' => Box H' b (n + i) ∧ Ext b H1 H' ∧ ∃ ys : List Str, ys.length = i ∧ (∀ y ∈ ys, y.length = 1 ∧ Low y) ∧ H' D = some (.lst (ys.map V.str))) ⟨(B.new hD).mono (by omega), Ext.new hD, [], rfl, fun _ h => absurd h List.not_mem_nil, upd_same⟩ (fun i H' hi p => step i H' hi p.1 _ _ fun c H'' hc B2 e2 => ?_) (fun H' p => ?_)
  · obtain ⟨B1, e1, ys, hl, h1, hD1⟩ := p
    refine ⟨ys.map V.str, e2 _ _ hbD.symm hD1, ?_, (B2.upd hbD).mono (by omega), (e1.trans e2).mut hD, ys ++ [⟨#[c]⟩], by rw [List.length_append, hl]; rfl, fun y hy => ?_, ?_⟩
    · rw [List.length_map]
      exact Nat.lt_of_lt_of_le (by omega) (sz 100)
    · rcases List.mem_append.mp hy with hy | hy
      · exact h1 y hy
      · rw [List.mem_singleton.mp hy]
        exact ⟨rfl, low_one hc⟩
    · rw [upd_same, List.map_append]
      rfl
  · obtain ⟨B1, e1, ys, hl, h1, hD1⟩ := p
    exact fin ys H' B1 e1 hl h1 hD1
theorem Box.same {H H' : Hp} {b : Addr} {n : Int} (h : Box H b n) (s : Same H H') : Box H' b n := by
  obtain ⟨x, y, z, e, r⟩ := h
  exact ⟨x, y, z, s _ _ e, r⟩
end Pu

set_option Elab.async false
set_option linter.all false
set_option maxRecDepth 100000
set_option maxHeartbeats 4000000
/-! comprehensions whose items draw from a box -/
namespace Pu
open PySem PySem.Spec PyProof.Rows L2
section
variable {α : Type} {b D : Addr} {n c : Int} {H1 : Hp} {te : TE} {i : Nat} {vs : List Nat} {σ : L2.St} {Qd : Hp → Prop}
/-- [something made of x for x in xs], xs a list -/
theorem lc_boxW {J : It} {G : Hp → Prop} {xs : List α} {v : α → V} (hc : 0 ≤ c) (w : Walk J xs.length G (YAt (xs.map v))) (hD : H1 D = none) (B : Box H1 b n) (hG : ∀ H', Ext b H1 H' → G H') (hz : xs.length < sizeLine)
    (R : V → α → Hp → Prop) (mono : ∀ y x H H', R y x H → Ext b H H' → R y x H')
    (hw : ∀ x, wipe ((wipe σ vs).set i (some x)) vs = wipe σ vs)
    (put : ∀ y x (H : Hp) o, R y x H → (∃ ys, H D = some (.lst ys)) → R y x (upd H D (.lst o)))
    (step : ∀ (j : Nat) x, xs[j]? = some x → ∀ H', Ext b H1 H' → Box H' b (n + c * j) → ∀ (N : VK), (∀ y H'', Ext b H' H'' → Box H'' b (n + c * (j + 1 : Nat)) → R y x H'' → N y H'') → te ((wipe σ vs).set i (some (v x))) H' N)
    (fin : ∀ ys H', Ext b H1 H' → Box H' b (n + c * xs.length) → H' D = some (.lst ys) → Paired (fun y x => R y x H') ys xs → Qd H') :
    ∃ W : Nat → Nat → Hp → Prop, (∃ m, W 0 m (upd H1 D (.lst []))) ∧ ∀ i' m H, W i' m H →
      (J.stop i' H ∧ Qd H) ∨ (J.go i' H ∧ ∃ Nx : Hp → Prop, (∀ H', Nx H' → ∃ m', m' < m ∧ W (i' + 1) m' H') ∧ ∀ x H', J.yld i' H x H' → gName i x (wipe σ vs) H' fun σ2 H2 => wipe σ2 vs = wipe σ vs ∧ tYes σ2 H2 fun b H3 =>
        if b = true then te σ2 H3 fun y H4 => ∃ acc, H4 D = some (.lst acc) ∧ acc.length < sizeLine ∧ Nx (upd H4 D (.lst (acc ++ [y]))) else Nx H3) := by
  have hbD : b ≠ D := B.ne hD
  refine lc_it w (fun j H' => Ext b H1 H' ∧ Box H' b (n + c * j) ∧ ∃ ys, H' D = some (.lst ys) ∧ ys.length ≤ j ∧ Paired (fun y x => R y x H') ys (xs.take j)) ⟨Ext.new hD, by have := B.new (o := .lst []) hD; simpa using this, [], upd_same, Nat.le_refl _, .nil⟩ (fun j H' _ p => hG H' p.1) (fun j x H' H'' hj pv yv => ?_) (fun H' pv => ?_)
  · obtain ⟨rfl, hx⟩ := yv
    rw [List.getElem?_map, List.getElem?_eq_getElem hj] at hx
    cases hx
    obtain ⟨e1, B1, ys, hy, hl, hp⟩ := pv
    refine ⟨hw _, step j xs[j] (List.getElem?_eq_getElem hj) H'' e1 B1 _ fun y H3 e3 B3 hr => ⟨ys, e3 _ _ hbD.symm hy, by omega, (e1.trans e3).mut hD, B3.upd hbD, ys ++ [y], upd_same, by rw [List.length_append]; show _ + 1 ≤ _; omega, ?_⟩⟩
    rw [List.take_add_one, List.getElem?_eq_getElem hj]
    exact paired_snoc (paired_mono hp fun a b' h => put _ _ _ _ (mono _ _ _ _ h e3) ⟨ys, e3 _ _ hbD.symm hy⟩) (put _ _ _ _ hr ⟨ys, e3 _ _ hbD.symm hy⟩)
  · obtain ⟨e1, B1, ys, hy, hl, hp⟩ := pv
    rw [List.take_length] at hp
    exact fin ys H' e1 B1 hy hp
/-- [something made at k for k in range(m)] -/
theorem lc_boxR {m : Nat} (hc : 0 ≤ c) (hD : H1 D = none) (B : Box H1 b n) (hz : m < sizeLine)
    (R : V → Nat → Hp → Prop) (mono : ∀ y x H H', R y x H → Ext b H H' → R y x H')
    (hw : ∀ x, wipe ((wipe σ vs).set i (some x)) vs = wipe σ vs)
    (put : ∀ y x (H : Hp) o, R y x H → (∃ ys, H D = some (.lst ys)) → R y x (upd H D (.lst o)))
    (step : ∀ (j : Nat), j < m → ∀ H', Ext b H1 H' → Box H' b (n + c * j) → ∀ (N : VK), (∀ y H'', Ext b H' H'' → Box H'' b (n + c * (j + 1 : Nat)) → R y j H'' → N y H'') → te ((wipe σ vs).set i (some (.int j))) H' N)
    (fin : ∀ ys H', Ext b H1 H' → Box H' b (n + c * m) → H' D = some (.lst ys) → ys.length = m → (∀ k y, ys[k]? = some y → R y k H') → Qd H') :
    ∃ W : Nat → Nat → Hp → Prop, (∃ m, W 0 m (upd H1 D (.lst []))) ∧ ∀ i' m' H, W i' m' H →
      ((Itr 0 m).stop i' H ∧ Qd H) ∨ ((Itr 0 m).go i' H ∧ ∃ Nx : Hp → Prop, (∀ H', Nx H' → ∃ m'', m'' < m' ∧ W (i' + 1) m'' H') ∧ ∀ x H', (Itr 0 m).yld i' H x H' → gName i x (wipe σ vs) H' fun σ2 H2 => wipe σ2 vs = wipe σ vs ∧ tYes σ2 H2 fun b H3 =>
        if b = true then te σ2 H3 fun y H4 => ∃ acc, H4 D = some (.lst acc) ∧ acc.length < sizeLine ∧ Nx (upd H4 D (.lst (acc ++ [y]))) else Nx H3) := by
  have hbD : b ≠ D := B.ne hD
  refine lc_range (lo := 0) (fun j H' => Ext b H1 H' ∧ Box H' b (n + c * j) ∧ ∃ ys, H' D = some (.lst ys) ∧ ys.length = j ∧ ∀ k y, ys[k]? = some y → R y k H') ⟨Ext.new hD, by have := B.new (o := .lst []) hD; simpa using this, [], upd_same, rfl, fun k y h => by simp at h⟩ (fun j H' hj pv => ?_) (fun H' pv => ?_)
  · obtain ⟨e1, B1, ys, hy, hl, hR⟩ := pv
    rw [Int.zero_add]
    refine ⟨hw _, step j hj H' e1 B1 _ fun y H3 e3 B3 hr => ⟨ys, e3 _ _ hbD.symm hy, by omega, (e1.trans e3).mut hD, B3.upd hbD, ys ++ [y], upd_same, by rw [List.length_append, hl]; rfl, fun k z hk => ?_⟩⟩
    rcases Nat.lt_or_ge k ys.length with h | h
    · rw [List.getElem?_append_left h] at hk
      exact put _ _ _ _ (mono _ _ _ _ (hR k z hk) e3) ⟨_, e3 _ _ hbD.symm hy⟩
    · rw [List.getElem?_append_right h] at hk
      have h0 : k - ys.length = 0 := by
        cases hh : k - ys.length with
        | zero => rfl
        | succ m => rw [hh] at hk; simp at hk
      rw [h0] at hk
      have hkj : k = j := by omega
      cases hk
      subst hkj
      exact put _ _ _ _ hr ⟨_, e3 _ _ hbD.symm hy⟩
  · obtain ⟨e1, B1, ys, hy, hl, hR⟩ := pv
    exact fin ys H' e1 B1 hy hl hR
end
end Pu

set_option Elab.async false
set_option linter.all false
set_option maxRecDepth 100000
set_option maxHeartbeats 4000000
/-! methods of built-in values within comprehensions: the fragment is named, so that the reading knows no block -/
namespace Pu
open PySem PySem.Spec PyProof.Rows L2
section
variable {X : Cx} {K : PySem.W.Frag} {o e : Expr} {es : List Expr} {to : TE} {t : TA} {name : Str} {apos cpos : Pos} {T id : String} {r : V → List V → Hp → VK → Prop}
theorem pe_bmK (K : PySem.W.Frag) (pa : PlainAttrs T) (slot : Slot T name id) (hty : typeOf (.builtin id) = pure (.type "method_descriptor")) (hm : MtR X id r) (ho : PE X o to) (ha : PA X (e :: es) t) (hK : X.K = K := by rfl)
    (hbase : attributeBase o name X.env (eval o X.env) = eval o X.env := by rfl)
    (hfew : ((backTo cpos (starEach (e :: es) X.env)).all (fun x => !x.1) && (backToKw cpos (keywordEach [] X.env)).all (fun x => x.1.isSome)
      && decide ((e :: es).length + ([] : List Keyword).length + (if ([] : List Keyword).isEmpty then 0 else 1) < 30)) = true := by rfl)
    (hline : (apos.endLine == cpos.line) = true := by rfl) (hs : starEach (e :: es) X.env = (false, eval e X.env) :: starEach es X.env := by rfl) (hplain : (backTo cpos (starEach es X.env)).any (·.1) = false := by rfl) :
    PE X (.Call (.Attribute o name apos) (e :: es) [] cpos) (tBM K T r to t) := by
  subst hK
  exact pe_bm pa slot hty hm ho ha hbase hfew hline hs hplain
theorem pe_bm0K (K : PySem.W.Frag) (pa : PlainAttrs T) (slot : Slot T name id) (hty : typeOf (.builtin id) = pure (.type "method_descriptor")) (hm : MtR X id r) (ho : PE X o to) (hK : X.K = K := by rfl)
    (hbase : attributeBase o name X.env (eval o X.env) = eval o X.env := by rfl) (hline : (apos.endLine == cpos.line) = true := by rfl) : PE X (.Call (.Attribute o name apos) [] [] cpos) (tBM0 K T r to) := by
  subst hK
  exact pe_bm0 pa slot hty hm ho hbase hline
end
/-! ### letters that lie some way apart -/
def letS (s t : Int) (k : Nat) : Nat := (cs ("abcdefghijklmnopqrstuvwxyz" : Str)).getD (((s + t * (k : Int)) % 26).toNat) 0
theorem letS_ne {s t : Int} {j k : Nat} (ht : t = 1 ∨ t = 3 ∨ t = 5 ∨ t = 7 ∨ t = 9 ∨ t = 11) (hj : j < 8) (hk : k < 8) (h : j ≠ k) : letS s t j ≠ letS s t k := by
  intro e
  have h1 := Int.emod_nonneg (s + t * (j : Int)) (show (26 : Int) ≠ 0 by decide)
  have h2 := Int.emod_lt_of_pos (s + t * (j : Int)) (show (0 : Int) < 26 by decide)
  have h3 := Int.emod_nonneg (s + t * (k : Int)) (show (26 : Int) ≠ 0 by decide)
  have h4 := Int.emod_lt_of_pos (s + t * (k : Int)) (show (0 : Int) < 26 by decide)
  have := abc_inj _ (by omega) _ (by omega) e
  rcases ht with rfl | rfl | rfl | rfl | rfl | rfl <;> omega
theorem letS_in {s t : Int} {k : Nat} : atI (cs ("abcdefghijklmnopqrstuvwxyz" : Str)) ((s + t * (k : Int)) % 26) = some (letS s t k) ∧ letS s t k ∈ cs ("abcdefghijklmnopqrstuvwxyz" : Str) := by
  have h1 := Int.emod_nonneg (s + t * (k : Int)) (show (26 : Int) ≠ 0 by decide)
  have h2 := Int.emod_lt_of_pos (s + t * (k : Int)) (show (0 : Int) < 26 by decide)
  obtain ⟨v, hv, hm⟩ := pickN (xs := cs ("abcdefghijklmnopqrstuvwxyz" : Str)) h1 (by show _ < (26 : Int); exact h2)
  have e : v = letS s t k := by
    have h5 : atI (cs ("abcdefghijklmnopqrstuvwxyz" : Str)) (((((s + t * (k : Int)) % 26).toNat : Nat) : Int)) = some v := by
      rw [Int.toNat_of_nonneg h1]
      exact hv
    have hlt : ((s + t * (k : Int)) % 26).toNat < (cs ("abcdefghijklmnopqrstuvwxyz" : Str)).length := by
      show _ < 26
      omega
    rw [atI_nat (List.getElem?_eq_getElem hlt)] at h5
    unfold letS
    rw [List.getD_eq_getElem?_getD, List.getElem?_eq_getElem hlt]
    exact (Option.some.inj h5).symm
  rw [← e]
  exact ⟨hv, hm⟩
/-- a stem and a sign, or the sign alone -/
def Nm (S : Str) (c : Nat) (z : Str) : Prop := (cs z).Perm (c :: cs S) ∨ cs z = [c]
theorem nm_ne {S z : Str} {c d : Nat} (h1 : Nm S c z) (h2 : Nm S d z) : c = d := by
  rcases h1 with h1 | h1
  · rcases h2 with h2 | h2
    · have h3 := (h1.symm.trans h2).count_eq c
      rw [List.count_cons_self, List.count_cons] at h3
      by_cases e : d = c
      · exact e.symm
      · rw [if_neg (by simpa using e)] at h3
        omega
    · rw [h2] at h1
      have h4 := h1.length_eq
      have h5 := h1.mem_iff (a := c)
      simp only [List.mem_cons, List.not_mem_nil, or_false, true_or, iff_true] at h5
      exact h5
  · rcases h2 with h2 | h2
    · rw [h1] at h2
      have h5 := h2.mem_iff (a := d)
      simp only [List.mem_cons, List.not_mem_nil, or_false, true_or, iff_true] at h5
      exact h5.symm
    · rw [h1] at h2
      exact (List.cons.inj h2).1
theorem nm_app {S : Str} {c : Nat} : Nm S c (S ++ (⟨#[c]⟩ : Str)) := by
  refine .inl ?_
  rw [cs_app, cs_one]
  exact List.perm_append_comm
theorem nm_pre {S : Str} {c : Nat} : Nm S c ((⟨#[c]⟩ : Str) ++ S) := by
  refine .inl ?_
  rw [cs_app, cs_one]
  exact List.Perm.refl _
theorem nm_one {S : Str} {c : Nat} : Nm S c (⟨#[c]⟩ : Str) := .inr (cs_one c)
end Pu

set_option Elab.async false
set_option linter.all false
set_option maxRecDepth 100000
set_option maxHeartbeats 4000000
namespace Pk
open PySem PySem.Spec PyProof.Rows L2 Pu
abbrev s_law_mixed : Stmt := topS 48
theorem sc_law_mixed : FnScope ["_law_box_here", "_law_some", "_law_left", "_law_k"] ["_law_box_here", "_law_some"] (defScope s_law_mixed) := ⟨rfl, rfl, rfl, by decide +kernel, rfl, by decide +kernel, by decide +kernel⟩

section
variable {P : Program} {w : World} {K : PySem.W.Frag} {mg : Str → Option Value} {base : Heap}
/-! ### in another order -/
theorem eraseIdx_perm {α : Type} : ∀ {l : List α} {k : Nat} {y : α}, l[k]? = some y → (y :: l.eraseIdx k).Perm l
  | x :: r, 0, y, h => by
    cases h
    exact List.Perm.refl _
  | x :: r, k + 1, y, h => by
    have ih := eraseIdx_perm (l := r) (k := k) (y := y) h
    show (y :: x :: r.eraseIdx k).Perm (x :: r)
    exact (List.Perm.swap x y _).trans (ih.cons x)
theorem seqIndex_nat {k n : Nat} (h : k < n) : seqIndex? (k : Int) n = some k := by
  unfold seqIndex?
  have h1 : ¬ ((k : Int) < 0) := by omega
  have h2 : ((k : Int) < (n : Int)) := by omega
  simp only [if_neg h1, Int.natCast_nonneg, decide_true, Bool.true_and, decide_eq_true h2, if_true, Int.toNat_natCast]
def spShuf (K : PySem.W.Frag) : Sp := fun vs H Q _ => ∃ (b a : Addr) (xs : List V) (n : Int), vs = [.ref b, .ref a] ∧ Sq K H a xs ∧ xs.length ≤ 100 ∧ n ≤ 900000 ∧ Box H b n ∧
  ∀ l ys H', Box H' b (n + xs.length) → Pu.Ext b H H' → H l = none → H' l = some (.lst ys) → ys.Perm xs → Q (.ref l) H'
theorem ok_mixed {f : Addr} {fd : FuncData} (F : Fun K "_law_mixed" "_law_mixed" s_law_mixed f fd) (T : Txt mg) (claw_take : Cal P w K mg base 1 "_law_take" spTake []) : FnOk P w K mg base CX0 2 f fd ["_law_box_here", "_law_some"] (spShuf K) := by
  have nd := sc_law_mixed.nd
  refine F.ok sc_law_mixed (fun vs H Q E h => ?_) (fun cdv A outer s H vs Q E hr h => ?_)
  · obtain ⟨_, _, _, _, rfl, _⟩ := h
    rfl
  · obtain ⟨b, a, xs, n, rfl, hq, hx, hn, hB, q⟩ := h
    refine ⟨_, (pss_cons (ps_set (i := 2) nd rfl (Or.inr rfl) (pe_callTy (lstOf K) (by rfl) T.m_list PyProof.Rows.boot_list (pa_cons (pv 1) pa_nil)))
      (pss_one (ps_ret (pe_lc (own := [("_law_k", 3)]) (g := gName 3) (tt := tYes) rfl nd (pi_range1 rfl T.m_range (pa_cons (pe_callB (lenK K) (by rfl) T.m_len PySem.boot_len (pa_cons (pv 1) pa_nil)) pa_nil)) (blkOk_by (N := ["_law_box_here", "_law_some", "_law_left", "_law_k"]) (sc := defScope s_law_mixed) (by decide +kernel)) (fun _ _ _ _ _ => pg_name (i := 3) nd rfl (Or.inl rfl)) (fun _ _ _ _ _ => pts_nil) (fun _ _ _ _ _ => (pe_bmK K PySem.F.plainAttrs_list PySem.F.slot_list_pop PySem.F.type_list_pop mt_popAt (pv 2) (pa_cons (pe_c claw_take hr (by decide) rfl (pa_cons (pv 0) (pa_cons (pe_callB (lenK K) (by rfl) T.m_len PySem.boot_len (pa_cons (pv 2) pa_nil)) pa_nil))) pa_nil))))))), ?_⟩
    refine ⟨_, rfl, a, xs, rfl, hq, fun l nl => ?_⟩
    have s0 : Same H (upd H l (.lst xs)) := same_upd nl
    have hl0 : (upd H l (.lst xs)) l = some (.lst xs) := upd_same
    have B0 : Box (upd H l (.lst xs)) b n := hB.new nl
    have hbl : b ≠ l := hB.ne nl
    revert s0 hl0 B0
    generalize upd H l (.lst xs) = H0
    intro s0 hl0 B0
    refine ⟨_, rfl, .inl ⟨a, xs, rfl, sq_same hq s0, _, rfl, by omega, by omega, fun D hD => ?_⟩⟩
    have nD : H D = none := s0.free hD
    have hlD : l ≠ D := ne_of_none hl0 hD
    have hbD : b ≠ D := hB.ne nD
    refine lc_range (lo := 0) (n := xs.length) (fun i H' => Box H' b (n + i) ∧ Pu.Ext b H H' ∧ ∃ ls fs, (ls ++ fs).Perm xs ∧ ls.length + i = xs.length ∧ H' l = some (.lst ls) ∧ H' D = some (.lst fs))
      ⟨(B0.new hD).mono (by omega), fun x o _ h => same_upd hD _ _ (s0 x o h), xs, [], by rw [List.append_nil], by omega, by rw [upd_ne hlD]; exact hl0, upd_same⟩ (fun i H1 hi pv => ?_) (fun H1 pv => ?_)
    · obtain ⟨B1, e1, ls, fs, hp, hln, hl1, hf1⟩ := pv
      refine ⟨rfl, _, rfl, .inl ⟨rfl, _, .inl (.inl hl1)⟩, _, rfl, _, rfl, .inl ⟨l, _, rfl, .inl (.inl (.inl hl1)), b, _, _, rfl, by omega, by omega, by omega, B1, fun d H2 g1 g2 B2 e2 => ?_⟩⟩
      obtain ⟨k, rfl⟩ := Int.eq_ofNat_of_zero_le g1
      have hk : k < ls.length := by omega
      have hl2 := e2 _ _ hbl.symm hl1
      have hf2 := e2 _ _ hbD.symm hf1
      refine ⟨l, ls, _, k, ls[k], rfl, rfl, hl2, by omega, by omega, seqIndex_nat hk, List.getElem?_eq_getElem hk, fs, ?_, ?_, ?_⟩
      · rw [upd_ne hlD.symm]
        exact hf2
      · have := hp.length_eq
        rw [List.length_append] at this
        exact Nat.lt_of_lt_of_le (by omega) (sz 1000)
      · refine ⟨((B2.upd hbl).upd hbD).mono (by omega), ((e1.trans e2).mut nl).mut nD, ls.eraseIdx k, fs ++ [ls[k]], ?_, ?_, ?_, upd_same⟩
        · have h1 := eraseIdx_perm (List.getElem?_eq_getElem hk)
          have h2 : (ls.eraseIdx k ++ (fs ++ [ls[k]])).Perm (ls[k] :: ls.eraseIdx k ++ fs) := by
            rw [← List.append_assoc]
            exact List.perm_append_comm.trans (List.Perm.refl _)
          exact h2.trans ((h1.append_right fs).trans hp)
        · rw [List.length_eraseIdx, if_pos hk]
          omega
        · rw [upd_ne hlD, upd_same]
    · obtain ⟨B1, e1, ls, fs, hp, hln, hl1, hf1⟩ := pv
      have h0 : ls = [] := List.eq_nil_of_length_eq_zero (by omega)
      subst h0
      exact q D fs H1 B1 e1 nD hf1 hp

end
end Pk

set_option Elab.async false
set_option linter.all false
set_option maxRecDepth 100000
set_option maxHeartbeats 4000000
namespace Pk
open PySem PySem.Spec PyProof.Rows L2 Pu
abbrev s_law_names : Stmt := topS 49
theorem sc_law_names : FnScope ["_law_box_here", "_law_many", "_law_letters", "_law_stem", "_law_first", "_law_step", "_law_way", "_law_found", "_law_k", "_law_sign"] ["_law_box_here", "_law_many"] (defScope s_law_names) := ⟨rfl, rfl, rfl, by decide +kernel, rfl, by decide +kernel, by decide +kernel⟩

section
variable {P : Program} {w : World} {K : PySem.W.Frag} {mg : Str → Option Value} {base : Heap}
/-! ### names that differ -/
theorem name_ok {z : Str} (h : Low z) (h1 : 1 ≤ z.length) (h2 : z.length ≤ 8) : nameOk z = true := by
  rw [nameOk_of h1 h2, List.all_eq_true]
  intro c hc
  exact decide_eq_true (h c hc)
def spNames : Sp := fun vs H Q _ => ∃ (b : Addr) (m : Nat) (n : Int), vs = [.ref b, .int m] ∧ 1 ≤ m ∧ m ≤ 8 ∧ n ≤ 900000 ∧ Box H b n ∧
  ∀ l es H', Box H' b (n + 4) → Ext b H H' → H l = none → H' l = some (.lst (es.map V.str)) → EvsOk es → es.length = m → Q (.ref l) H'
theorem stem_in : ∀ v ∈ [V.str "", .str "a", .str "tie", .str "load", .str "limit", .str "zzzzzzz"], ∃ z : Str, v = .str z ∧ z.length ≤ 7 ∧ Low z := by
  intro v hv
  simp only [List.mem_cons, List.not_mem_nil, or_false] at hv
  rcases hv with rfl | rfl | rfl | rfl | rfl | rfl <;> exact ⟨_, rfl, by decide +kernel, by unfold Low; decide +kernel⟩
theorem ok_names {f : Addr} {fd : FuncData} (F : Fun K "_law_names" "_law_names" s_law_names f fd) (T : Txt mg) (claw_take : Cal P w K mg base 1 "_law_take" spTake []) : FnOk P w K mg base CX0 2 f fd ["_law_box_here", "_law_many"] spNames := by
  have nd := sc_law_names.nd
  refine F.ok sc_law_names (fun vs H Q E h => ?_) (fun cdv A outer s H vs Q E hr h => ?_)
  · obtain ⟨_, _, _, rfl, _⟩ := h
    rfl
  · obtain ⟨b, m, n, rfl, hm1, hm8, hn, hB, q⟩ := h
    refine ⟨_, (pss_cons (ps_set (i := 2) nd rfl (Or.inl rfl) pe_str)
      (pss_cons (ps_set (i := 3) nd rfl (Or.inl rfl) (pe_ix (ixL K) (pe_lst (pa_cons pe_str (pa_cons pe_str (pa_cons pe_str (pa_cons pe_str (pa_cons pe_str (pa_cons pe_str pa_nil))))))) (pe_c claw_take hr (by decide) rfl (pa_cons (pv 0) (pa_cons pe_int pa_nil))) (fun _ _ => rfl)))
      (pss_cons (ps_par3 (i := 4) (j := 5) (l := 6) rfl nd rfl rfl rfl (by decide) (by decide) (by decide) rfl rfl rfl (pa_cons (pe_c claw_take hr (by decide) rfl (pa_cons (pv 0) (pa_cons pe_int pa_nil))) (pa_cons (pe_ix (ixL K) (pe_lst (pa_cons pe_int (pa_cons pe_int (pa_cons pe_int (pa_cons pe_int (pa_cons pe_int (pa_cons pe_int pa_nil))))))) (pe_c claw_take hr (by decide) rfl (pa_cons (pv 0) (pa_cons pe_int pa_nil))) (fun _ _ => rfl)) (pa_cons (pe_c claw_take hr (by decide) rfl (pa_cons (pv 0) (pa_cons pe_int pa_nil))) pa_nil))) (by rfl))
      (pss_cons (ps_set (i := 7) nd rfl (Or.inl rfl) (pe_lst pa_nil))
      (pss_cons (ps_for PassesOwn.never rfl (pi_range1 rfl T.m_range (pa_cons (pv 1) pa_nil)) (pg_name (i := 8) nd rfl (Or.inl rfl))
      (pss_cons (ps_set (i := 9) nd rfl (Or.inl rfl) (pe_ix ix_str (pv 2) (pe_op op_mod (pe_op oAdd (pv 4) (pe_op op_mul (pv 5) (pv 8))) pe_int) (fun _ _ => rfl)))
      (pss_one (ps_expr (pe_bm PySem.F.plainAttrs_list PySem.F.slot_list_append PySem.F.type_list_append mt_append (pv 7) (pa_cons (pe_ix (ixL K) (pe_lst (pa_cons (pe_op oAdd (pv 3) (pv 9)) (pa_cons (pe_op oAdd (pv 9) (pv 3)) (pa_cons (pv 9) pa_nil)))) (pe_ifExp (pt_cmpR op_gt (pv 8) pe_int (by rfl)) (pv 6) pe_int) (fun _ _ => rfl)) pa_nil))))))
      (pss_one (ps_ret (pv 7)))))))), ?_⟩
    refine ⟨sz 6, fun L hL => ⟨_, rfl, b, 6, _, rfl, by decide, by decide, by omega, hB.new hL, fun d H1 g1 g2 B1 e1 => ?_⟩⟩
    have hbL := hB.ne hL
    have hL1 := e1 _ _ hbL.symm upd_same
    obtain ⟨v, hv, hvm⟩ := pickN (xs := [V.str "", .str "a", .str "tie", .str "load", .str "limit", .str "zzzzzzz"]) g1 (by show d < 6; exact g2)
    obtain ⟨S, rfl, hS7, hSl⟩ := stem_in v hvm
    refine ⟨L, _, _, _, rfl, rfl, .inl (.inl hL1), hv, ?_⟩
    have e01 : Ext b H H1 := (Ext.new hL).trans e1
    refine ⟨_, rfl, b, 26, _, rfl, by decide, by decide, by omega, B1, fun s0 H2 f1 f2 B2 e2 => ⟨sz 6, fun L2 hL2 => ⟨_, rfl, b, 6, _, rfl, by decide, by decide, by omega, B2.new hL2, fun d2 H3 k1 k2 B3 e3 => ?_⟩⟩⟩
    have hbL2 := B2.ne hL2
    have hL3 := e3 _ _ hbL2.symm upd_same
    obtain ⟨v2, hv2, hvm2⟩ := pickN (xs := [V.int 1, .int 3, .int 5, .int 7, .int 9, .int 11]) k1 (by show d2 < 6; exact k2)
    obtain ⟨t, rfl, ht⟩ : ∃ t : Int, v2 = .int t ∧ (t = 1 ∨ t = 3 ∨ t = 5 ∨ t = 7 ∨ t = 9 ∨ t = 11) := by
      simp only [List.mem_cons, List.not_mem_nil, or_false] at hvm2
      rcases hvm2 with rfl | rfl | rfl | rfl | rfl | rfl <;> exact ⟨_, rfl, by decide⟩
    have ht0 : 0 < t ∧ t < 12 := by rcases ht with h | h | h | h | h | h <;> subst h <;> decide
    refine ⟨L2, _, _, _, rfl, rfl, .inl (.inl hL3), hv2, ?_⟩
    have e03 : Ext b H H3 := e01.trans (e2.trans ((Ext.new hL2).trans e3))
    refine ⟨_, rfl, b, 3, _, rfl, by decide, by decide, by omega, B3, fun wy H4 w1 w2 B4 e4 => ?_⟩
    have e04 := e03.trans e4
    refine ⟨_, _, _, rfl, sz 0, fun fl nfl => ?_⟩
    have fl0 : H fl = none := e04.fresh B4 nfl
    have hbf : b ≠ fl := B4.ne nfl
    have B5 : Box (upd H4 fl (.lst [])) b (n + 4) := (B4.new nfl).mono (by omega)
    have e05 : Ext b H (upd H4 fl (.lst [])) := e04.trans (Ext.new nfl)
    have f5 : (upd H4 fl (.lst [])) fl = some (.lst []) := upd_same
    revert B5 e05 f5
    generalize upd H4 fl (.lst []) = H5
    clear hL1 hL3 e01 e03 e04 e1 e2 e3 e4 B1 B2 B3 B4 hv hv2 hvm hvm2 hL hL2 nfl hbL hbL2 g1 g2 k1 k2
    intro B5 e05 f5
    refine ⟨_, rfl, m, rfl, by omega, by omega, for_range (fun i σ H' => Box H' b (n + 4) ∧ Pu.Ext b H H' ∧ ∃ es v8 v9, es.length = i ∧ (∀ e ∈ es, Low e ∧ 1 ≤ e.length ∧ e.length ≤ 8) ∧ (∀ j e, es[j]? = some e → Nm S (letS s0 t j) e) ∧ H' fl = some (.lst (es.map V.str)) ∧
      σ = [some (.ref b), some (.int m), some (.str "abcdefghijklmnopqrstuvwxyz"), some (.str S), some (.int s0), some (.int t), some (.int wy), some (.ref fl), v8, v9]) ⟨B5, e05, [], none, none, rfl, fun _ h => absurd h List.not_mem_nil, fun j e h => (by simp at h), f5, rfl⟩ (fun i σ H6 hi pv => ?_) (fun σ H6 pv => ?_)⟩
    · obtain ⟨B6, e6, es, v8, v9, hl6, hes, hlast, hf6, rfl⟩ := pv
      rw [Int.zero_add]
      obtain ⟨hat, hmem⟩ := letS_in (s := s0) (t := t) (k := i)
      refine ⟨_, rfl, _, rfl, _, rfl, _, rfl, _, _, rfl, rfl, .inl ⟨by omega, by omega⟩, .inl ⟨_, _, rfl, rfl, _, _, rfl, rfl, (by show (0 : Int) < 26; decide), _, _, letS s0 t i, rfl, rfl, by decide +kernel, hat, ?_⟩⟩
      have lc1 : ((⟨#[letS s0 t i]⟩ : Str)).length = 1 := rfl
      have fin : ∀ (z : Str) (L : Addr) (o : HO), Nm S (letS s0 t i) z → Low z → 1 ≤ z.length → z.length ≤ 8 → H6 L = none → Box (upd (upd H6 L o) fl (.lst (es.map V.str ++ [.str z]))) b (n + 4) ∧ Pu.Ext b H (upd (upd H6 L o) fl (.lst (es.map V.str ++ [.str z]))) ∧ ∃ (es' : List Str) (v8 v9 : Option V), es'.length = i + 1 ∧ (∀ e ∈ es', Low e ∧ 1 ≤ e.length ∧ e.length ≤ 8) ∧ (∀ j e, es'[j]? = some e → Nm S (letS s0 t j) e) ∧ (upd (upd H6 L o) fl (.lst (es.map V.str ++ [.str z]))) fl = some (.lst (es'.map V.str)) ∧
          [some (V.ref b), some (.int m), some (.str "abcdefghijklmnopqrstuvwxyz"), some (.str S), some (.int s0), some (.int t), some (.int wy), some (.ref fl), some (.int i), some (.str ⟨#[letS s0 t i]⟩)] = [some (.ref b), some (.int m), some (.str "abcdefghijklmnopqrstuvwxyz"), some (.str S), some (.int s0), some (.int t), some (.int wy), some (.ref fl), v8, v9] := fun z L o hz hlw h1 h8 hL => by
        refine ⟨(B6.new hL).upd hbf, (e6.trans (Ext.new hL)).mut fl0, es ++ [z], _, _, by rw [List.length_append, hl6]; rfl, fun e he => ?_, fun j e hj => ?_, ?_, rfl⟩
        · rcases List.mem_append.mp he with h | h
          · exact hes e h
          · rw [List.mem_singleton.mp h]
            exact ⟨hlw, h1, h8⟩
        · rcases Nat.lt_or_ge j es.length with h | h
          · rw [List.getElem?_append_left h] at hj
            exact hlast j e hj
          · rw [List.getElem?_append_right h] at hj
            have hj2 : j - es.length = 0 := by
              cases hjj : j - es.length with
              | zero => rfl
              | succ k => rw [hjj] at hj; simp at hj
            rw [hj2] at hj
            have hj3 : j = i := by omega
            subst hj3
            exact Option.some.inj hj ▸ hz
        · rw [upd_same, List.map_append]
          rfl
      have hs1 : (S ++ (⟨#[letS s0 t i]⟩ : Str)).length = S.length + 1 := by rw [len_app]; rfl
      have hs2 : ((⟨#[letS s0 t i]⟩ : Str) ++ S).length = S.length + 1 := by rw [len_app]; show 1 + _ = _; omega
      have c1 : Low (⟨#[letS s0 t i]⟩ : Str) := low_one hmem
      refine ⟨_, rfl, .inl ⟨rfl, _, .inl (.inl hf6)⟩, _, rfl, _, rfl, .inr (.inl ⟨_, _, rfl, rfl, ?_, _, rfl, _, rfl, .inr (.inl ⟨_, _, rfl, rfl, ?_, _, rfl, sz 3, fun L hL => ?_⟩)⟩)⟩
      · show _ + 1 ≤ _
        exact sz _ (by omega)
      · show 1 + _ ≤ _
        exact sz _ (by omega)
      have hLL : (upd H6 L (.lst [.str (S ++ (⟨#[letS s0 t i]⟩ : Str)), .str ((⟨#[letS s0 t i]⟩ : Str) ++ S), .str ⟨#[letS s0 t i]⟩])) L = some (.lst [.str (S ++ (⟨#[letS s0 t i]⟩ : Str)), .str ((⟨#[letS s0 t i]⟩ : Str) ++ S), .str ⟨#[letS s0 t i]⟩]) := upd_same
      have hfL : (upd H6 L (.lst [.str (S ++ (⟨#[letS s0 t i]⟩ : Str)), .str ((⟨#[letS s0 t i]⟩ : Str) ++ S), .str ⟨#[letS s0 t i]⟩])) fl = some (.lst (es.map V.str)) := same_upd hL _ _ hf6
      have hel : (es.map V.str).length < sizeLine := by
        rw [List.length_map]
        exact Nat.lt_of_lt_of_le (by omega) (sz 100)
      have end1 : ∀ (j : Int), 0 ≤ j → j < 3 → ∃ z : Str, atI [V.str (S ++ (⟨#[letS s0 t i]⟩ : Str)), .str ((⟨#[letS s0 t i]⟩ : Str) ++ S), .str ⟨#[letS s0 t i]⟩] j = some (.str z) ∧ Nm S (letS s0 t i) z ∧ Low z ∧ 1 ≤ z.length ∧ z.length ≤ 8 := fun j j0 j3 => by
        obtain ⟨v, hv, hvm⟩ := pickN (xs := [V.str (S ++ (⟨#[letS s0 t i]⟩ : Str)), .str ((⟨#[letS s0 t i]⟩ : Str) ++ S), .str ⟨#[letS s0 t i]⟩]) j0 (by show j < 3; exact j3)
        simp only [List.mem_cons, List.not_mem_nil, or_false] at hvm
        rcases hvm with rfl | rfl | rfl
        · exact ⟨_, hv, nm_app, low_app hSl c1, by omega, by omega⟩
        · exact ⟨_, hv, nm_pre, low_app c1 hSl, by omega, by omega⟩
        · exact ⟨_, hv, nm_one, c1, by omega, by omega⟩
      refine ⟨_, rfl, _, _, rfl, rfl, _, rfl, ite2 (fun ek => ?_) (fun ek => ?_)⟩
      · obtain ⟨z, hz, hn, hlw, h1, h8⟩ := end1 wy w1 w2
        exact ⟨_, rfl, L, _, _, _, rfl, rfl, .inl (.inl hLL), hz, fl, _, _, rfl, rfl, hfL, hel, fin z L _ hn hlw h1 h8 hL⟩
      · obtain ⟨z, hz, hn, hlw, h1, h8⟩ := end1 0 (by decide) (by decide)
        exact ⟨L, _, _, _, rfl, rfl, .inl (.inl hLL), hz, fl, _, _, rfl, rfl, hfL, hel, fin z L _ hn hlw h1 h8 hL⟩
    · obtain ⟨B6, e6, es, v8, v9, hl6, hes, hlast, hf6, rfl⟩ := pv
      refine ⟨_, rfl, q fl es H6 B6 e6 fl0 hf6 ⟨by omega, by omega, fun e he => name_ok (hes e he).1 (hes e he).2.1 (hes e he).2.2, ?_⟩ hl6⟩
      rw [List.nodup_iff_pairwise_ne, List.pairwise_iff_getElem]
      intro j k hj hk hjk he
      have h1 := hlast j _ (List.getElem?_eq_getElem hj)
      have h2 := hlast k _ (List.getElem?_eq_getElem hk)
      rw [he] at h1
      exact letS_ne ht (by omega) (by omega) (by omega) (nm_ne h1 h2)

end
end Pk

set_option Elab.async false
set_option linter.all false
set_option maxRecDepth 100000
set_option maxHeartbeats 4000000
namespace Pk
open PySem PySem.Spec PyProof.Rows L2 Pu
abbrev s_law_lag : Stmt := topS 50
theorem sc_law_lag : FnScope ["_law_box_here"] ["_law_box_here"] (defScope s_law_lag) := ⟨rfl, rfl, rfl, by decide +kernel, rfl, by decide +kernel, by decide +kernel⟩
abbrev s_law_model : Stmt := topS 51
theorem sc_law_model : FnScope ["_law_box_here", "_law_many", "_law_most", "_law_marks", "_law_order", "_law_cords", "_law_caps", "_law_k", "_law_one", "_law_other", "_law_lag_here", "_law_event"] ["_law_box_here", "_law_many", "_law_most"] (defScope s_law_model) := ⟨rfl, rfl, rfl, by decide +kernel, rfl, by decide +kernel, by decide +kernel⟩

section
variable {P : Program} {w : World} {K : PySem.W.Frag} {mg : Str → Option Value} {base : Heap}
/-! ### the law's own plan -/
theorem TiesAt.keep {H H' : Hp} {ts : List Addr} {ties : List (Str × Str × Int)} (h : TiesAt H ts ties) (k : ∀ x ∈ ts, ∀ r, H x = some (.tup r) → H' x = some (.tup r)) : TiesAt H' ts ties := by
  unfold TiesAt at *
  induction h with
  | nil => exact .nil
  | @cons a t as bs r _ ih => exact .cons (k _ (List.mem_cons_self ..) _ r) (ih fun x hx => k x (List.mem_cons_of_mem _ hx))
theorem TiesAt.snoc {H : Hp} {ts : List Addr} {ties : List (Str × Str × Int)} {a : Addr} {t : Str × Str × Int} (h : TiesAt H ts ties) (ha : H a = some (.tup (rowV t))) : TiesAt H (ts ++ [a]) (ties ++ [t]) := by
  unfold TiesAt at *
  induction h with
  | nil => exact .cons ha .nil
  | cons r _ ih => exact .cons r ih
/-- a plan as the law holds it, apart from the box at b -/
def ModAt (b : Addr) (H : Hp) (m : Addr) (d : PlanD) : Prop := ∃ (e t c : Addr) (ts : List Addr), H m = some (.lst [.ref e, .ref t, .ref c]) ∧ H e = some (.lst (d.evs.map V.str)) ∧ H t = some (.lst (ts.map V.ref)) ∧ TiesAt H ts d.ties ∧ H c = some (.dK (capsV d.caps)) ∧ m ≠ b ∧ e ≠ b ∧ t ≠ b ∧ c ≠ b ∧ ∀ x ∈ ts, x ≠ b
theorem ModAt.ext {b m : Addr} {H H' : Hp} {d : PlanD} (h : ModAt b H m d) (e : Pu.Ext b H H') : ModAt b H' m d := by
  obtain ⟨e1, t, c, ts, h1, h2, h3, h4, h5, n1, n2, n3, n4, n5⟩ := h
  exact ⟨e1, t, c, ts, e _ _ n1 h1, e _ _ n2 h2, e _ _ n3 h3, h4.keep fun x hx r hr => e _ _ (n5 x hx) hr, e _ _ n4 h5, n1, n2, n3, n4, n5⟩
theorem same_ext {b : Addr} {H H' : Hp} (s : Same H H') : Pu.Ext b H H' := fun a o _ h => s a o h
theorem ModAt.same {b m : Addr} {H H' : Hp} {d : PlanD} (h : ModAt b H m d) (s : Same H H') : ModAt b H' m d := h.ext (same_ext s)
def idxS : List Str → Str → Nat
  | [], _ => 0
  | y :: r, x => if y = x then 0 else idxS r x + 1
theorem idxS_get : ∀ {os : List Str} {x : Str}, x ∈ os → os[idxS os x]? = some x ∧ ∀ m, m < idxS os x → ∀ z, os[m]? = some z → z ≠ x
  | y :: r, x, h => by
    unfold idxS
    by_cases e : y = x
    · rw [if_pos e]
      exact ⟨by rw [e]; rfl, fun m hm => absurd hm (Nat.not_lt_zero _)⟩
    · rw [if_neg e]
      have hx : x ∈ r := by
        rcases List.mem_cons.mp h with h | h
        · exact absurd h.symm e
        · exact h
      obtain ⟨h1, h2⟩ := idxS_get hx
      refine ⟨h1, fun m hm z hz => ?_⟩
      cases m with
      | zero => cases hz; exact e
      | succ m => exact h2 m (by omega) z hz
theorem eqV_str (a b : Str) : eqV (.str a) (.str b) = decide (a = b) := by
  show (a == b) = _
  rw [Bool.eq_iff_iff, beq_iff_eq, decide_eq_true_iff]
theorem strs_get {os : List Str} {i : Nat} {z : V} (h : (os.map V.str)[i]? = some z) : ∃ s, os[i]? = some s ∧ z = .str s := by
  rw [List.getElem?_map] at h
  cases e : os[i]? with
  | none => rw [e] at h; cases h
  | some s =>
    rw [e] at h
    cases h
    exact ⟨s, rfl, rfl⟩
/-- what list.index of a text in a list of texts asks -/
theorem idx_at {os : List Str} {x : Str} (hx : x ∈ os) : (os.map V.str)[idxS os x]? = some (.str x) ∧ eqV (.str x) (.str x) = true ∧ ∀ (m : Nat) (z' : V), m < idxS os x → (os.map V.str)[m]? = some z' → eqV z' (.str x) = false := by
  obtain ⟨h1, h2⟩ := idxS_get hx
  refine ⟨by rw [List.getElem?_map, h1]; rfl, by rw [eqV_str]; exact decide_eq_true rfl, fun m z' hm hz => ?_⟩
  obtain ⟨s, hs, rfl⟩ := strs_get hz
  rw [eqV_str]
  exact decide_eq_false (h2 m hm s hs)
def unS : V → Str
  | .str s => s
  | _ => ""
theorem perm_strs {ys : List V} {es : List Str} (h : ys.Perm (es.map V.str)) : ∃ sh : List Str, ys = sh.map V.str ∧ sh.Perm es := by
  refine ⟨ys.map unS, ?_, ?_⟩
  · rw [List.map_map]
    have : ∀ y ∈ ys, (V.str ∘ unS) y = y := by
      intro y hy
      obtain ⟨s, _, rfl⟩ := List.mem_map.mp (h.mem_iff.mp hy)
      rfl
    rw [List.map_congr_left this, List.map_id']
  · have := h.map unS
    rw [List.map_map] at this
    have e : es.map (unS ∘ V.str) = es := by
      rw [show (unS ∘ V.str) = id from rfl, List.map_id]
    rw [e] at this
    exact this
/-! ### a drawn lag -/
def bigL : Int := 10 ^ 28
def spLag : Sp := fun vs H Q _ => ∃ (b : Addr) (n : Int), vs = [.ref b] ∧ n ≤ 900000 ∧ Box H b n ∧ ∀ i H', 0 ≤ i → i ≤ bigL → Box H' b (n + 2) → Pu.Ext b H H' → Q (.int i) H'
theorem ok_lag {f : Addr} {fd : FuncData} (F : Fun K "_law_lag" "_law_lag" s_law_lag f fd) (T : Txt mg) (claw_take : Cal P w K mg base 1 "_law_take" spTake []) : FnOk P w K mg base CX0 2 f fd ["_law_box_here"] spLag := by
  have nd := sc_law_lag.nd
  refine F.ok sc_law_lag (fun vs H Q E h => ?_) (fun cdv A outer s H vs Q E hr h => ?_)
  · obtain ⟨_, _, rfl, _⟩ := h
    rfl
  · obtain ⟨b, n, rfl, hn, hB, q⟩ := h
    refine ⟨_, (pss_one (ps_ret (pe_ix (ixL K) (pe_lst (pa_cons pe_int (pa_cons pe_int (pa_cons pe_int (pa_cons pe_int (pa_cons pe_int (pa_cons pe_int (pa_cons pe_int (pa_cons (pe_op op_mul (pe_c claw_take hr (by decide) rfl (pa_cons (pv 0) (pa_cons (pe_op op_pow pe_int pe_int) pa_nil))) (pe_op op_pow pe_int pe_int)) pa_nil))))))))) (pe_c claw_take hr (by decide) rfl (pa_cons (pv 0) (pa_cons pe_int pa_nil))) (fun _ _ => rfl)))), ?_⟩
    refine ⟨_, rfl, _, _, rfl, rfl, ⟨by decide, by decide, by decide⟩, b, _, _, rfl, by decide, by decide, by omega, hB, fun dg H1 f1 f2 B1 e1 => ⟨_, _, rfl, rfl, ⟨by decide, by decide, by decide⟩, _, _, rfl, rfl, ?_, sz 8, fun L hL => ⟨_, rfl, b, 8, _, rfl, by decide, by decide, by omega, B1.new hL, fun d8 H2 k1 k2 B2 e2 => ?_⟩⟩⟩
    · have f2 : dg < 1000000000000 := f2
      exact .inl ⟨by omega, by omega⟩
    have hbL := B1.ne hL
    have hL2 := e2 _ _ hbL.symm upd_same
    have f2 : dg < 1000000000000 := f2
    obtain ⟨v, hv, hvm⟩ := pickN (xs := [V.int 0, .int 0, .int 1, .int 1, .int 2, .int 3, .int 5, .int (dg * 10 ^ 15)]) k1 (by show d8 < 8; exact k2)
    obtain ⟨i, rfl, i0, i1⟩ : ∃ i : Int, v = .int i ∧ 0 ≤ i ∧ i ≤ bigL := by
      have hbig : bigL = 10000000000000000000000000000 := by decide
      have hmul : dg * 10 ^ 15 = dg * 1000000000000000 := rfl
      simp only [List.mem_cons, List.not_mem_nil, or_false] at hvm
      rcases hvm with rfl | rfl | rfl | rfl | rfl | rfl | rfl | rfl
      all_goals refine ⟨_, rfl, ?_, ?_⟩ <;> omega
    exact ⟨L, _, _, _, rfl, rfl, .inl (.inl hL2), hv, q i H2 i0 i1 (B2.mono (by omega)) (e1.trans ((Pu.Ext.new hL).trans e2))⟩
/-! ### the law's own plan, drawn -/
structure LMod (d : PlanD) (m mo : Nat) : Prop where
  ok : PlanOk d
  len : d.evs.length = m
  tl : d.ties.length ≤ mo
  lag : ∀ t ∈ d.ties, t.2.2 ≤ bigL
  cap : ∀ c ∈ d.caps, c.2 ≤ bigL
def spModel : Sp := fun vs H Q _ => ∃ (b : Addr) (m mo : Nat) (n : Int), vs = [.ref b, .int m, .int mo] ∧ 1 ≤ m ∧ m ≤ 8 ∧ mo ≤ 60 ∧ n ≤ 800000 ∧ Box H b n ∧
  ∀ q d H', Box H' b (n + 600) → Pu.Ext b H H' → H q = none → ModAt b H' q d → LMod d m mo → Q (.ref q) H'
theorem pick_str {es : List Str} {i : Int} (h0 : 0 ≤ i) (h1 : i < es.length) : ∃ x, atI (es.map V.str) i = some (.str x) ∧ x ∈ es := by
  obtain ⟨v, hv, hm⟩ := pickN (xs := es.map V.str) h0 (by rw [List.length_map]; exact h1)
  obtain ⟨x, hx, rfl⟩ := List.mem_map.mp hm
  exact ⟨x, hv, hx⟩
def TieOk (es os : List Str) (t : Str × Str × Int) : Prop := t.1 ∈ es ∧ t.2.1 ∈ es ∧ 0 ≤ t.2.2 ∧ t.2.2 ≤ bigL ∧ (t.2.2 = 0 → idxS os t.1 < idxS os t.2.1)
def PInv1 (b l o tl cp : Addr) (m mo : Nat) (es os : List Str) (H : Hp) (n : Int) (i : Nat) (σ : L2.St) (H' : Hp) : Prop := Box H' b (n + 30 + 5 * i) ∧ Pu.Ext b H H' ∧ H' l = some (.lst (es.map V.str)) ∧ H' o = some (.lst (os.map V.str)) ∧ H' cp = some (.dK []) ∧
  ∃ (ts : List Addr) (ties : List (Str × Str × Int)) (v7 v8 v9 v10 : Option V), ties.length = i ∧ H' tl = some (.lst (ts.map V.ref)) ∧ TiesAt H' ts ties ∧ (∀ x ∈ ts, x ≠ b) ∧ (∀ t ∈ ties, TieOk es os t) ∧
    σ = [some (.ref b), some (.int m), some (.int mo), some (.ref l), some (.ref o), some (.ref tl), some (.ref cp), v7, v8, v9, v10, none]
def PInv2 (b l o tl cp : Addr) (m mo : Nat) (sh : List Str) (es : List Str) (ts : List Addr) (ties : List (Str × Str × Int)) (H : Hp) (n : Int) (l2 : Addr) (i : Nat) (σ : L2.St) (H' : Hp) : Prop := Box H' b (n + 400 + 5 * i) ∧ Pu.Ext b H H' ∧ H' l = some (.lst (es.map V.str)) ∧ H' tl = some (.lst (ts.map V.ref)) ∧ TiesAt H' ts ties ∧ H' l2 = some (.lst (sh.map V.str)) ∧
  ∃ (cs : List (Str × Int)) (v7 v8 v9 v10 v11 : Option V), H' cp = some (.dK (capsV cs)) ∧ cs.length ≤ i ∧ (∀ c ∈ cs, c.1 ∈ sh.take i ∧ 0 ≤ c.2 ∧ c.2 ≤ bigL) ∧ (cs.map (·.1)).Nodup ∧
    σ = [some (.ref b), some (.int m), some (.int mo), some (.ref l), some (.ref o), some (.ref tl), some (.ref cp), v7, v8, v9, v10, v11]
theorem ok_model {f : Addr} {fd : FuncData} (F : Fun K "_law_model" "_law_model" s_law_model f fd) (T : Txt mg) (claw_take : Cal P w K mg base 1 "_law_take" spTake []) (claw_names : Cal P w K mg base 2 "_law_names" spNames []) (claw_mixed : Cal P w K mg base 2 "_law_mixed" (spShuf K) [])
    (claw_lag : Cal P w K mg base 2 "_law_lag" spLag []) : FnOk P w K mg base CX0 3 f fd ["_law_box_here", "_law_many", "_law_most"] spModel := by
  have nd := sc_law_model.nd
  refine F.ok sc_law_model (fun vs H Q E h => ?_) (fun cdv A outer s H vs Q E hr h => ?_)
  · obtain ⟨_, _, _, _, rfl, _⟩ := h
    rfl
  · obtain ⟨b, m, mo, n, rfl, hm1, hm8, hmo, hn, hB, q⟩ := h
    have hu := hu_of hr
    refine ⟨_, (pss_cons (ps_set (i := 3) nd rfl (Or.inl rfl) (pe_c claw_names hr (by decide) rfl (pa_cons (pv 0) (pa_cons (pv 1) pa_nil))))
      (pss_cons (ps_par3 (i := 4) (j := 5) (l := 6) rfl nd rfl rfl rfl (by decide) (by decide) (by decide) rfl rfl rfl (pa_cons (pe_c claw_mixed hr (by decide) rfl (pa_cons (pv 0) (pa_cons (pv 3) pa_nil))) (pa_cons (pe_lst pa_nil) (pa_cons pe_dnewK pa_nil))) (by rfl))
      (pss_cons (ps_for PassesOwn.never rfl (pi_range1 rfl T.m_range (pa_cons (pe_c claw_take hr (by decide) rfl (pa_cons (pv 0) (pa_cons (pe_op oAdd (pv 2) pe_int) pa_nil))) pa_nil)) (pg_name (i := 7) nd rfl (Or.inl rfl))
      (pss_cons (ps_par (i := 8) (j := 9) rfl nd rfl rfl (by decide) rfl rfl (pa_cons (pe_ix (ixL K) (pv 3) (pe_c claw_take hr (by decide) rfl (pa_cons (pv 0) (pa_cons (pv 1) pa_nil))) (fun _ _ => rfl)) (pa_cons (pe_ix (ixL K) (pv 3) (pe_c claw_take hr (by decide) rfl (pa_cons (pv 0) (pa_cons (pv 1) pa_nil))) (fun _ _ => rfl)) pa_nil)) (by rfl))
      (pss_cons (ps_set (i := 10) nd rfl (Or.inl rfl) (pe_c claw_lag hr (by decide) rfl (pa_cons (pv 0) pa_nil)))
      (pss_cut (ps_if (PW.pt (pw_and (pt_cmpR op_eq (pv 10) pe_int (by rfl)) (pw_and1 (pt_cmpR op_ge (pe_bm PySem.F.plainAttrs_list PySem.F.slot_list_index PySem.F.type_list_index mt_index (pv 4) (pa_cons (pv 8) pa_nil)) (pe_bm PySem.F.plainAttrs_list PySem.F.slot_list_index PySem.F.type_list_index mt_index (pv 4) (pa_cons (pv 9) pa_nil)) (by rfl)))))
      (pss_one (ps_set (i := 10) nd rfl (Or.inl rfl) pe_int)) pss_nil)
      (pss_one (ps_expr (pe_bm PySem.F.plainAttrs_list PySem.F.slot_list_append PySem.F.type_list_append mt_append (pv 5) (pa_cons (pe_tup (pa_cons (pv 8) (pa_cons (pv 9) (pa_cons (pv 10) pa_nil)))) pa_nil))))))))
      (pss_cons (ps_for PassesOwn.never rfl (pi_list (pe_c claw_mixed hr (by decide) rfl (pa_cons (pv 0) (pa_cons (pv 3) pa_nil)))) (pg_name (i := 11) nd rfl (Or.inl rfl))
      (pss_one (ps_if (pt_cmpR op_eq (pe_c claw_take hr (by decide) rfl (pa_cons (pv 0) (pa_cons pe_int pa_nil))) pe_int (by rfl))
      (pss_one (ps_dput hu (pv 6) (pv 11) (pe_ix (ixL K) (pe_lst (pa_cons pe_int (pa_cons pe_int (pa_cons pe_int (pa_cons pe_int (pa_cons pe_int (pa_cons (pe_op op_mul (pe_c claw_take hr (by decide) rfl (pa_cons (pv 0) (pa_cons (pe_op op_pow pe_int pe_int) pa_nil))) (pe_op op_pow pe_int pe_int)) pa_nil))))))) (pe_c claw_take hr (by decide) rfl (pa_cons (pv 0) (pa_cons pe_int pa_nil))) (fun _ _ => rfl)) rfl)) pss_nil)))
      (pss_one (ps_ret (pe_lst (pa_cons (pv 3) (pa_cons (pv 5) (pa_cons (pv 6) pa_nil)))))))))), ?_⟩
    refine ⟨_, rfl, _, rfl, b, m, n, rfl, by omega, by omega, by omega, hB, fun l es H2 B2 e02 l0 hl ho hln => ?_⟩
    have hbl : b ≠ l := hB.ne l0
    have hlo := ho.lo
    have hhi := ho.hi
    refine ⟨_, rfl, _, rfl, b, l, es.map V.str, _, rfl, .inl (.inl (.inl hl)), by rw [List.length_map]; omega, by omega, B2, fun o ys H3 B3 e3 no ho3 hperm => ⟨sz 0, fun tl ntl => fun cp ncp => ⟨_, _, _, rfl, ?_⟩⟩⟩
    obtain ⟨os, rfl, hos⟩ := perm_strs hperm
    rw [List.length_map] at B3
    have hbo : b ≠ o := B2.ne no
    have o0 : H o = none := e02.fresh B2 no
    have hbt : b ≠ tl := B3.ne ntl
    have t0 : H tl = none := (e02.trans e3).fresh B3 ntl
    have B4 := B3.new (o := .lst []) ntl
    have e04 := (e02.trans e3).trans (Pu.Ext.new (o := .lst []) ntl)
    have hbc : b ≠ cp := B4.ne ncp
    have c0 : H cp = none := e04.fresh B4 ncp
    have B5 := B4.new (o := .dK []) ncp
    have e05 := e04.trans (Pu.Ext.new (o := .dK []) ncp)
    have s35 : Same H3 (upd (upd H3 tl (.lst [])) cp (.dK [])) := Same.trans (same_upd ntl) (same_upd ncp)
    have hl5 := s35 _ _ (e3 _ _ hbl.symm hl)
    have ho5 := s35 _ _ ho3
    have ht5 : (upd (upd H3 tl (.lst [])) cp (.dK [])) tl = some (.lst []) := same_upd ncp _ _ upd_same
    have hc5 : (upd (upd H3 tl (.lst [])) cp (.dK [])) cp = some (.dK []) := upd_same
    have hlt : l ≠ tl := fun e => by
      rw [← e, e3 _ _ hbl.symm hl] at ntl
      cases ntl
    have hot : o ≠ tl := fun e => by
      rw [← e, ho3] at ntl
      cases ntl
    revert B5 e05 hl5 ho5 ht5 hc5
    clear s35 e04 B4 ho3 ncp ntl
    generalize upd (upd H3 tl (.lst [])) cp (.dK []) = H5
    intro B5 e05 hl5 ho5 ht5 hc5
    clear e3 no hl B3 B2 hperm H3 H2 e02
    have hz : (es.map V.str).length = es.length := List.length_map ..
    refine ⟨_, rfl, _, rfl, .inl ⟨_, _, rfl, rfl, b, _, _, rfl, by omega, by omega, by omega, B5, fun d1 H6 g1 g2 B6 e6 => ?_⟩⟩
    obtain ⟨k1, rfl⟩ := Int.eq_ofNat_of_zero_le g1
    have hk1 : k1 ≤ mo := by omega
    refine ⟨k1, rfl, by omega, by omega, for_range (n := k1) (PInv1 b l o tl cp m mo es os H n) ⟨B6.mono (by omega), e05.trans e6, e6 _ _ hbl.symm hl5, e6 _ _ hbo.symm ho5, e6 _ _ hbc.symm hc5, [], [], none, none, none, none, rfl, e6 _ _ hbt.symm ht5, .nil, fun _ h => absurd h List.not_mem_nil, fun _ h => absurd h List.not_mem_nil, rfl⟩ (fun i σ H7 hi pv => ?_) (fun σ H7 pv => ?_)⟩
    · obtain ⟨B7, e7, hl7, ho7, hc7, ts, ties, v8, v9, v10, v11, hti, ht7, hT7, hTb, hTk, rfl⟩ := pv
      rw [Int.zero_add]
      refine ⟨_, rfl, _, rfl, _, rfl, b, m, _, rfl, by omega, by omega, by omega, B7, fun p1 H8 i1 i2 B8 e8 => ?_⟩
      rw [← hln] at i2
      obtain ⟨x, hx, hxm⟩ := pick_str (es := es) i1 i2
      have hl8 := e8 _ _ hbl.symm hl7
      refine ⟨l, _, _, .str x, rfl, rfl, .inl (.inl hl8), hx, _, rfl, _, rfl, _, rfl, b, m, _, rfl, by omega, by omega, by omega, B8, fun p2 H9 j1 j2 B9 e9 => ?_⟩
      rw [← hln] at j2
      obtain ⟨y, hy, hym⟩ := pick_str (es := es) j1 j2
      have hl9 := e9 _ _ hbl.symm hl8
      refine ⟨l, _, _, .str y, rfl, rfl, .inl (.inl hl9), hy, _, _, rfl, ?_⟩
      refine ⟨_, rfl, b, _, rfl, by omega, B9, fun lg H11 hlg0 hlg1 B11 e10 => ?_⟩
      have e711 : Pu.Ext b H7 H11 := e8.trans (e9.trans e10)
      have hx2 : x ∈ os := hos.mem_iff.mpr hxm
      have hy2 : y ∈ os := hos.mem_iff.mpr hym
      have ho11 := e711 _ _ hbo.symm ho7
      refine ⟨fun σ' H' => Box H' b (n + 30 + 5 * i + 4) ∧ Pu.Ext b H7 H' ∧ ∃ lg' : Int, 0 ≤ lg' ∧ lg' ≤ bigL ∧ (lg' = 0 → idxS os x < idxS os y) ∧ σ' = [some (.ref b), some (.int m), some (.int mo), some (.ref l), some (.ref o), some (.ref tl), some (.ref cp), some (.int i), some (.str x), some (.str y), some (.int lg'), none], ?_, ?_⟩
      · refine ⟨_, rfl, rfl, _, rfl, ite2 (fun e0 => ?_) (fun e0 => ?_)⟩
        · refine ⟨_, rfl, .inl ⟨rfl, _, .inl (.inl ho11)⟩, _, rfl, o, _, _, idxS os x, .str x, rfl, rfl, .inl (.inl ho11), rfl, flat_strs _, (idx_at hx2).1, (idx_at hx2).2.1, (idx_at hx2).2.2, ?_⟩
          refine ⟨_, rfl, .inl ⟨rfl, _, .inl (.inl ho11)⟩, _, rfl, o, _, _, idxS os y, .str y, rfl, rfl, .inl (.inl ho11), rfl, flat_strs _, (idx_at hy2).1, (idx_at hy2).2.1, (idx_at hy2).2.2, ?_⟩
          refine ⟨_, _, rfl, rfl, _, rfl, ite2 (fun e2 => ?_) (fun e2 => ?_)⟩
          · have hbig : bigL = 10000000000000000000000000000 := by decide
            exact ⟨B11.mono (by omega), e711, 1, by decide, by omega, fun z => absurd z (by decide), rfl⟩
          · refine ⟨B11.mono (by omega), e711, lg, hlg0, hlg1, fun _ => ?_, rfl⟩
            have : ¬ ((idxS os y : Int) ≤ (idxS os x : Int)) := fun z => e2 (decide_eq_true z)
            omega
        · refine ⟨B11.mono (by omega), e711, lg, hlg0, hlg1, fun z => ?_, rfl⟩
          subst z
          exact absurd (decide_eq_true rfl) e0
      · rintro σ' H12 ⟨B12, e12, lg', g0, g1, gr, rfl⟩
        have ht12 := e12 _ _ hbt.symm ht7
        refine ⟨_, rfl, .inl ⟨rfl, _, .inl (.inl ht12)⟩, _, rfl, _, rfl, _, rfl, sz 3, fun Tn hTn => ⟨tl, _, _, rfl, rfl, same_upd hTn _ _ ht12, ?_, ?_⟩⟩
        · rw [List.length_map]
          have := hT7.length
          exact Nat.lt_of_lt_of_le (by omega) (sz 1000)
        have sT : Same H12 (upd H12 Tn (.tup [.str x, .str y, .int lg'])) := same_upd hTn
        have hbTn : b ≠ Tn := B12.ne hTn
        have hTT := (hT7.keep fun z hz r hr => e12 _ _ (hTb z hz) hr).same sT
        have key : ∀ a u, a ≠ tl → (upd H12 Tn (.tup [.str x, .str y, .int lg'])) a = some u → (upd (upd H12 Tn (.tup [.str x, .str y, .int lg'])) tl (.lst (ts.map V.ref ++ [.ref Tn]))) a = some u := fun a u ha h => by
          rw [upd_ne ha]
          exact h
        have nT : Tn ≠ tl := fun e => by
          rw [e, ht12] at hTn
          cases hTn
        refine ⟨((B12.new hTn).upd hbt).mono (by omega), ((e7.trans e12).trans (Pu.Ext.new hTn)).mut t0, key _ _ hlt (sT _ _ (e12 _ _ hbl.symm hl7)), key _ _ hot (sT _ _ (e12 _ _ hbo.symm ho7)), key _ _ (fun e => by rw [← e, e12 _ _ hbc.symm hc7] at ht12; cases ht12) (sT _ _ (e12 _ _ hbc.symm hc7)), ts ++ [Tn], ties ++ [(x, y, lg')], _, _, _, _, by rw [List.length_append, hti]; rfl, by rw [upd_same, List.map_append]; rfl, ?_, ?_, ?_, rfl⟩
        · refine TiesAt.snoc (hTT.keep fun z hz r hr => key _ _ (fun e => ?_) hr) (key _ _ nT upd_same)
          rw [e, sT _ _ ht12] at hr
          cases hr
        · intro z hz
          rcases List.mem_append.mp hz with h | h
          · exact hTb z h
          · rw [List.mem_singleton.mp h]
            exact hbTn.symm
        · intro t ht
          rcases List.mem_append.mp ht with h | h
          · exact hTk t h
          · rw [List.mem_singleton.mp h]
            exact ⟨hxm, hym, g0, g1, gr⟩
    · obtain ⟨B7, e7, hl7, ho7, hc7, ts, ties, v8, v9, v10, v11, hti, ht7, hT7, hTb, hTk, rfl⟩ := pv
      have e7s : ∀ {H' : Hp}, Pu.Ext b H7 H' → TiesAt H' ts ties := fun e => hT7.keep fun z hz r hr => e _ _ (hTb z hz) hr
      refine ⟨_, rfl, _, rfl, b, l, es.map V.str, _, rfl, .inl (.inl (.inl hl7)), by rw [List.length_map]; omega, by omega, B7, fun l2 ys H8 B8 e8 nl2 hl28 hperm2 => ⟨l2, rfl, ⟨_, .inl (.inl hl28)⟩, ?_⟩⟩
      obtain ⟨sh, rfl, hsh⟩ := perm_strs hperm2
      rw [List.length_map] at B8
      have hshl : sh.length = es.length := hsh.length_eq
      have hshn : sh.Nodup := hsh.nodup_iff.mpr ho.nd
      have hb2 : b ≠ l2 := B7.ne nl2
      have l20 : H l2 = none := e7.fresh B7 nl2
      have ht8 := e8 _ _ hbt.symm ht7
      have hc8 := e8 _ _ hbc.symm hc7
      have htc : tl ≠ cp := fun e => by rw [e, hc8] at ht8; cases ht8
      have hlc : l ≠ cp := fun e => by rw [e, hc7] at hl7; cases hl7
      have h2c : l2 ≠ cp := fun e => by rw [e, hc8] at hl28; cases hl28
      refine for_it (walk_list (K := K) (a := l2) (xs := sh.map V.str)) (PInv2 b l o tl cp m mo sh es ts ties H n l2) ⟨B8.mono (by omega), e7.trans e8, e8 _ _ hbl.symm hl7, ht8, e7s e8, hl28, [], v8, v9, v10, v11, none, hc8, Nat.le_refl _, fun _ h => absurd h List.not_mem_nil, List.nodup_nil, rfl⟩
        (fun i σ H' _ p => .inl (.inl p.2.2.2.2.2.1)) (fun i x σ H9 H9' hi pv yv => ?_) (fun σ H9 pv => ?_)
      · obtain ⟨rfl, hx⟩ := yv
        rw [List.length_map] at hi
        rw [List.getElem?_map, List.getElem?_eq_getElem hi] at hx
        cases hx
        obtain ⟨B9, e9, hl9, ht9, hT9, hl29, cs, w8, w9, w10, w11, w12, hc9, hcl, hck, hcn, rfl⟩ := pv
        have hin : sh[i] ∈ sh.take (i + 1) := by
          rw [List.take_add_one, List.getElem?_eq_getElem hi]
          exact List.mem_append_right _ (List.mem_singleton.mpr rfl)
        have hsub : ∀ e, e ∈ sh.take i → e ∈ sh.take (i + 1) := fun e he => by
          rw [List.take_add_one]
          exact List.mem_append_left _ he
        have hout : sh[i] ∉ sh.take i := fun hm => by
          obtain ⟨j, hj, e⟩ := List.getElem_of_mem hm
          rw [List.getElem_take] at e
          rw [List.length_take] at hj
          have := (List.getElem_inj (h₀ := by omega) (h₁ := hi) hshn).mp e
          omega
        have hsz : (capsV cs).length < sizeLine := by
          unfold capsV
          rw [List.length_map]
          exact Nat.lt_of_lt_of_le (by omega) (sz 1000)
        refine ⟨_, rfl, b, 4, _, rfl, by decide, by decide, by omega, B9, fun d3 J1 f1 f2 C1 g1 => ⟨rfl, _, rfl, ite2 (fun _ => ?_) (fun _ => ?_)⟩⟩
        · refine ⟨_, rfl, _, _, rfl, rfl, ⟨by decide, by decide, by decide⟩, b, _, _, rfl, by decide, by decide, by omega, C1, fun dg J2 f3 f4 C2 g2 => ⟨_, _, rfl, rfl, ⟨by decide, by decide, by decide⟩, _, _, rfl, rfl, ?_, sz 6, fun L hL => ⟨_, rfl, b, 6, _, rfl, by decide, by decide, by omega, C2.new hL, fun d6 J3 k1 k2 C3 g3 => ?_⟩⟩⟩
          · have f4 : dg < 1000000000000 := f4
            exact .inl ⟨by omega, by omega⟩
          have f4 : dg < 1000000000000 := f4
          have hbL := C2.ne hL
          have hL2 := g3 _ _ hbL.symm upd_same
          obtain ⟨v, hv, hvm⟩ := pickN (xs := [V.int 0, .int 1, .int 2, .int 4, .int 7, .int (dg * 10 ^ 15)]) k1 (by show d6 < 6; exact k2)
          obtain ⟨v, rfl, v0, v1⟩ : ∃ i : Int, v = .int i ∧ 0 ≤ i ∧ i ≤ bigL := by
            have hbig : bigL = 10000000000000000000000000000 := by decide
            have hmul : dg * 10 ^ 15 = dg * 1000000000000000 := rfl
            simp only [List.mem_cons, List.not_mem_nil, or_false] at hvm
            rcases hvm with rfl | rfl | rfl | rfl | rfl | rfl
            all_goals refine ⟨_, rfl, ?_, ?_⟩ <;> omega
          have g13 : Pu.Ext b H9' J3 := g1.trans (g2.trans ((Pu.Ext.new hL).trans g3))
          have hc13 := g13 _ _ hbc.symm hc9
          refine ⟨L, _, _, _, rfl, rfl, .inl (.inl hL2), hv, _, rfl, _, rfl, cp, _, rfl, .inl ⟨capsV cs, .inr sh[i], hc13, rfl, hsz, rfl⟩, ?_⟩
          have hp : putK (capsV cs) (.inr sh[i]) (.int v) = capsV (cs ++ [(sh[i], v)]) := by
            rw [putK_fresh fun p hp => ?_]
            · unfold capsV
              rw [List.map_append]
              rfl
            · unfold capsV at hp
              obtain ⟨c, hc, rfl⟩ := List.mem_map.mp hp
              intro e
              have e2 : c.1 = sh[i] := Sum.inr.inj e
              exact hout (e2 ▸ (hck c hc).1)
          rw [hp]
          have key : ∀ a u, a ≠ cp → J3 a = some u → (upd J3 cp (.dK (capsV (cs ++ [(sh[i], v)])))) a = some u := fun a u ha h => by
            rw [upd_ne ha]
            exact h
          refine ⟨(C3.upd hbc).mono (by omega), (e9.trans g13).mut c0, key _ _ hlc (g13 _ _ hbl.symm hl9), key _ _ htc (g13 _ _ hbt.symm ht9), ?_, key _ _ h2c (g13 _ _ hb2.symm hl29), cs ++ [(sh[i], v)], _, _, _, _, _, upd_same, by rw [List.length_append]; show _ + 1 ≤ _; omega, fun c hc => ?_, ?_, rfl⟩
          · refine hT9.keep fun z hz r hr => key _ _ (fun e => ?_) (g13 _ _ (hTb z hz) hr)
            rw [e, hc9] at hr
            cases hr
          · rcases List.mem_append.mp hc with h | h
            · exact ⟨hsub _ (hck c h).1, (hck c h).2⟩
            · rw [List.mem_singleton.mp h]
              exact ⟨hin, v0, v1⟩
          · rw [List.map_append, List.nodup_append]
            refine ⟨hcn, by simp, fun a ha c hc e => ?_⟩
            obtain ⟨q0, hq0, rfl⟩ := List.mem_map.mp ha
            have hc : c ∈ [sh[i]] := hc
            rw [List.mem_singleton] at hc
            subst hc
            exact hout (e ▸ (hck q0 hq0).1)
        · exact ⟨C1.mono (by omega), e9.trans g1, g1 _ _ hbl.symm hl9, g1 _ _ hbt.symm ht9, hT9.keep fun z hz r hr => g1 _ _ (hTb z hz) hr, g1 _ _ hb2.symm hl29, cs, _, _, _, _, _, g1 _ _ hbc.symm hc9, by omega, fun c hc => ⟨hsub _ (hck c hc).1, (hck c hc).2⟩, hcn, rfl⟩
      · obtain ⟨B9, e9, hl9, ht9, hT9, hl29, cs, w8, w9, w10, w11, w12, hc9, hcl, hck, hcn, rfl⟩ := pv
        rw [List.length_map, List.take_length] at hck
        refine ⟨_, rfl, _, rfl, _, rfl, sz 3, fun q0 hq0 => ?_⟩
        have sm : Same H9 (upd H9 q0 (.lst [.ref l, .ref tl, .ref cp])) := same_upd hq0
        exact q q0 ⟨es, ties, cs⟩ _ ((B9.new hq0).mono (by rw [List.length_map]; omega)) (e9.trans (Pu.Ext.new hq0)) (e9.fresh B9 hq0) ⟨l, tl, cp, ts, upd_same, sm _ _ hl9, sm _ _ ht9, hT9.same sm, sm _ _ hc9, (B9.ne hq0).symm, hbl.symm, hbt.symm, hbc.symm, hTb⟩
          ⟨⟨ho, by show ties.length ≤ 60; omega, fun t ht => ⟨(hTk t ht).1, (hTk t ht).2.1, (hTk t ht).2.2.1⟩, fun c hc => ⟨hsh.mem_iff.mp (hck c hc).1, (hck c hc).2.1⟩, hcn, idxS os, fun t ht => (hTk t ht).2.2.2.2⟩, hln, by show ties.length ≤ mo; omega, fun t ht => (hTk t ht).2.2.2.1, fun c hc => (hck c hc).2.2⟩

end
end Pk

set_option Elab.async false
set_option linter.all false
set_option maxRecDepth 100000
set_option maxHeartbeats 4000000
/-! != of lists and of dicts, == and != of tuples, where what holds of the parts is known in one program alone -/
namespace PySem.SeqAt
open AutoSeq1 (wpAny_loadPart')
open MeetsSeq MeetsSeq2 MeetsSeq3 SeqRoads2
section
variable {P : Program} {w : World}
/-- the parts that both hold, one by one -/
def Parts (P : Program) (w : World) (A : Around) (s : Shared) (us vs : Array Value) (f : Nat → Bool) : Prop := ∀ j (_ : j < us.size) (_ : j < vs.size), EqP P w A s us[j] vs[j] (f j)
theorem neLoop (p q : Addr) (us vs : Array Value) (m m' : Nat) (od od' : Option Addr) (ss ss' : Array (Option Value)) (len : us.size = vs.size) (f : Nat → Bool) : ∀ (left i : Nat), us.size - i = left →
    MeetsIn P w (Builtin.«list.__eq__.loop» ⟨[.ref p, .ref q, rawInt i, rawInt 3], []⟩) (fun A R s =>
      s.heap.get? p = some ⟨.type "list", od, .seq us m, ss⟩ ∧ s.heap.get? q = some ⟨.type "list", od', .seq vs m', ss'⟩ ∧ Parts P w A.in1 s us vs f ∧ R (.ok (.ret (.bool (!((List.range us.size).drop i).all f)))) s) := by
  intro left
  induction left with
  | zero =>
    rintro i hi A R ⟨hp, g, d, tk, os⟩ ⟨e1, e2, _, fin⟩
    have o1 : us[((i : Nat) : Int).toNat]? = none := by simp; omega
    have o2 : vs[((i : Nat) : Int).toNat]? = none := by simp; omega
    rw [show (List.range us.size).drop i = [] by simp; omega] at fin
    wp_walk using wpAny_loadPart' e1, wpAny_loadPart' e2
    rw [o1, o2]
    wp_walk using wpAny_loadPart' e1, wpAny_loadPart' e2
    show R (.ok (.ret (.bool (us.size != vs.size)))) _
    rw [len]
    simpa using fin
  | succ left ih =>
    rintro i hi A R ⟨hp, g, d, tk, os⟩ ⟨e1, e2, ps, fin⟩
    have l1 : i < us.size := by omega
    have l2 : i < vs.size := by omega
    have o1 : us[((i : Nat) : Int).toNat]? = some us[i] := by simp [l1]
    have o2 : vs[((i : Nat) : Int).toNat]? = some vs[i] := by simp [l2]
    have up : ((i : Int) + 1) = ((i + 1 : Nat) : Int) := by omega
    rw [show (List.range us.size).drop i = i :: (List.range us.size).drop (i + 1) by simp [List.drop_eq_getElem_cons, l1], List.all_cons] at fin
    wp_walk using wpAny_loadPart' e1, wpAny_loadPart' e2
    rw [o1, o2]
    refine wpAny_bind (ps i l1 l2 _ _ ?_)
    cases fi : f i with
    | true =>
      rw [fi] at fin
      wp_walk
      rw [up]
      refine ⟨plainId_quiet plain_eq_loop _, codeAny_builtin entry_eq_loop ?_⟩
      rw [Around.under_plainId plain_eq_loop _]
      exact ih (i + 1) (by omega) A R _ ⟨e1, e2, ps, by simpa using fin⟩
    | false =>
      rw [fi] at fin
      wp_walk using wpAny_loadPart' e1, wpAny_loadPart' e2
      rw [o1, o2]
      wp_walk
      simpa using fin
theorem neLists {A : Around} {s : Shared} {p q : Addr} {us vs : Array Value} {f : Nat → Bool} (h1 : s.heap.IsList p us) (h2 : s.heap.IsList q vs) (len : us.size = vs.size) (hu : A.units < cLine) (ps : Parts P w A.in1 s us vs f) (E Q : Value → Shared → Prop)
    (fin : Q (.bool (!(List.range us.size).all f)) s) : wpAny (model P w) A (richCompare .NotEq (.ref p) (.ref q)) Q E s := by
  obtain ⟨⟨c1, od, da, ss⟩, g1, k1, m, b1⟩ := id h1
  obtain ⟨⟨c2, od', db, ss'⟩, g2, k2, m', b2⟩ := id h2
  dsimp only at k1 b1 k2 b2
  subst k1 b1 k2 b2
  have t1 : s.TypeIs (.ref p) "list" := ⟨_, g1, rfl⟩
  have t2 : s.TypeIs (.ref q) "list" := ⟨_, g2, rfl⟩
  have body : MeetsIn P w (Builtin.«list.__ne__» ⟨[.ref p, .ref q], []⟩) (fun A R s => s.heap.get? p = some ⟨.type "list", od, .seq us m, ss⟩ ∧ s.heap.get? q = some ⟨.type "list", od', .seq vs m', ss'⟩ ∧ Parts P w A.in1 s us vs f ∧ R (.ok (.ret (.bool (!(List.range us.size).all f)))) s) := by
    rintro A R ⟨hp, g, d, tk, os⟩ ⟨e1, e2, ps, fin⟩
    have sub := AutoSeq1.sub_list_list
    have ne : ¬ (us.size != vs.size) = true := by simp [len]
    wp_walk using wpAny_loadPart' e1, wpAny_loadPart' e2
    refine ⟨plainId_quiet plain_eq_loop _, codeAny_builtin entry_eq_loop ?_⟩
    rw [Around.under_plainId plain_eq_loop _]
    exact neLoop p q us vs m m' od od' ss ss' len f _ 0 rfl A R _ ⟨e1, e2, ps, by simpa using fin⟩
  exact wpAny_richCompare_same_room (op := .NotEq) t1 t2 F.slot_list_ne (call_meetsIn F.slot_list_ne t1 F.entry_list_ne (F.args_list_ne_2 _ _) body ⟨g1, g2, ps, (fun x => nomatch x), fin⟩) hu
/-- a walk over the two tuples -/
theorem zipWalk {A : Around} {s : Shared} {us vs : Array Value} {f : Nat → Bool} (len : us.size = vs.size) : (us.toList.zip vs.toList).length = us.size := by simp [len]
theorem eqTuples {A : Around} {s : Shared} {p q : Addr} {us vs : Array Value} {f : Nat → Bool} (h1 : s.heap.IsTuple p us) (h2 : s.heap.IsTuple q vs) (len : us.size = vs.size) (hu : A.units < cLine) (ps : Parts P w A.in1 s us vs f) (E Q : Value → Shared → Prop)
    (fin : Q (.bool ((List.range us.size).all f)) s) : wpAny (model P w) A (richCompare .Eq (.ref p) (.ref q)) Q E s := by
  obtain ⟨⟨c1, od, da, ss⟩, g1, k1, m, b1⟩ := id h1
  obtain ⟨⟨c2, od', db, ss'⟩, g2, k2, m', b2⟩ := id h2
  dsimp only at k1 b1 k2 b2
  subst k1 b1 k2 b2
  have t1 : s.TypeIs (.ref p) "tuple" := ⟨_, g1, rfl⟩
  have t2 : s.TypeIs (.ref q) "tuple" := ⟨_, g2, rfl⟩
  have body : MeetsIn P w (Builtin.«tuple.__eq__» ⟨[.ref p, .ref q], []⟩) (fun A R s => s.heap.get? p = some ⟨.type "tuple", od, .seq us m, ss⟩ ∧ s.heap.get? q = some ⟨.type "tuple", od', .seq vs m', ss'⟩ ∧ Parts P w A.in1 s us vs f ∧ R (.ok (.ret (.bool ((List.range us.size).all f)))) s) := by
    rintro A R ⟨hp, g, d, tk, os⟩ ⟨e1, e2, ps, fin⟩
    have sub := AutoSeq1.sub_tuple_tuple
    have lz : (us.toList.zip vs.toList).length = us.size := by simp [len]
    wp_walk using wpAny_loadPart' e1, wpAny_loadPart' e2, wpAny_forIn_list _ (fun rest b s' => b.1 = none ∧ s' = ⟨hp, g, d, tk, os⟩ ∧ ∃ i, rest = (us.toList.zip vs.toList).drop i ∧ R (.ok (.ret (.bool (((List.range us.size).drop i).all f)))) ⟨hp, g, d, tk, os⟩) _
    case turn =>
      rintro ⟨y, x⟩ rest b s' ⟨nb, rfl, i, hz, hR⟩
      have li : i < (us.toList.zip vs.toList).length := by
        rcases Nat.lt_or_ge i (us.toList.zip vs.toList).length with z | z
        · exact z
        · rw [List.drop_of_length_le z] at hz
          cases hz
      have l1 : i < us.size := lz ▸ li
      have l2 : i < vs.size := len ▸ l1
      rw [List.drop_eq_getElem_cons li] at hz
      obtain ⟨hyx, hrest⟩ := List.cons.inj hz
      have ey : y = us[i] := by simpa using congrArg Prod.fst hyx
      have ex : x = vs[i] := by simpa using congrArg Prod.snd hyx
      subst ey ex
      rw [show (List.range us.size).drop i = i :: (List.range us.size).drop (i + 1) by simp [List.drop_eq_getElem_cons, l1], List.all_cons] at hR
      refine wpAny_bind (ps i l1 l2 _ _ ?_)
      cases fi : f i with
      | true =>
        rw [fi] at hR
        wp_walk
        exact ⟨rfl, rfl, i + 1, hrest, by simpa using hR⟩
      | false =>
        rw [fi] at hR
        wp_walk
        simpa using hR
    case fin =>
      rintro ⟨b1, b2⟩ s' ⟨nb, rfl, i, hz, hR⟩
      dsimp only at nb
      subst nb
      have li : us.size ≤ i := by
        rcases Nat.lt_or_ge i (us.toList.zip vs.toList).length with z | z
        · rw [List.drop_eq_getElem_cons z] at hz
          cases hz
        · exact lz ▸ z
      rw [List.drop_of_length_le (by simpa using li)] at hR
      wp_walk
      simpa [Builtin.Tuple.tupleCompareSizes, len] using hR
    case h => exact ⟨rfl, rfl, 0, rfl, by simpa using fin⟩
  exact wpAny_richCompare_same_room (op := .Eq) t1 t2 F.slot_tuple_eq (call_meetsIn F.slot_tuple_eq t1 F.entry_tuple_eq (F.args_tuple_eq_2 _ _) body ⟨g1, g2, ps, (fun x => nomatch x), fin⟩) hu
theorem neTuples {A : Around} {s : Shared} {p q : Addr} {us vs : Array Value} {f : Nat → Bool} (h1 : s.heap.IsTuple p us) (h2 : s.heap.IsTuple q vs) (len : us.size = vs.size) (hu : A.units < cLine) (ps : Parts P w A.in1 s us vs f) (E Q : Value → Shared → Prop)
    (fin : Q (.bool (!(List.range us.size).all f)) s) : wpAny (model P w) A (richCompare .NotEq (.ref p) (.ref q)) Q E s := by
  obtain ⟨⟨c1, od, da, ss⟩, g1, k1, m, b1⟩ := id h1
  obtain ⟨⟨c2, od', db, ss'⟩, g2, k2, m', b2⟩ := id h2
  dsimp only at k1 b1 k2 b2
  subst k1 b1 k2 b2
  have t1 : s.TypeIs (.ref p) "tuple" := ⟨_, g1, rfl⟩
  have t2 : s.TypeIs (.ref q) "tuple" := ⟨_, g2, rfl⟩
  have body : MeetsIn P w (Builtin.«tuple.__ne__» ⟨[.ref p, .ref q], []⟩) (fun A R s => s.heap.get? p = some ⟨.type "tuple", od, .seq us m, ss⟩ ∧ s.heap.get? q = some ⟨.type "tuple", od', .seq vs m', ss'⟩ ∧ Parts P w A.in1 s us vs f ∧ R (.ok (.ret (.bool (!(List.range us.size).all f)))) s) := by
    rintro A R ⟨hp, g, d, tk, os⟩ ⟨e1, e2, ps, fin⟩
    have sub := AutoSeq1.sub_tuple_tuple
    have lz : (us.toList.zip vs.toList).length = us.size := by simp [len]
    wp_walk using wpAny_loadPart' e1, wpAny_loadPart' e2, wpAny_forIn_list _ (fun rest b s' => b.1 = none ∧ s' = ⟨hp, g, d, tk, os⟩ ∧ ∃ i, rest = (us.toList.zip vs.toList).drop i ∧ R (.ok (.ret (.bool (!((List.range us.size).drop i).all f)))) ⟨hp, g, d, tk, os⟩) _
    case turn =>
      rintro ⟨y, x⟩ rest b s' ⟨nb, rfl, i, hz, hR⟩
      have li : i < (us.toList.zip vs.toList).length := by
        rcases Nat.lt_or_ge i (us.toList.zip vs.toList).length with z | z
        · exact z
        · rw [List.drop_of_length_le z] at hz
          cases hz
      have l1 : i < us.size := lz ▸ li
      have l2 : i < vs.size := len ▸ l1
      rw [List.drop_eq_getElem_cons li] at hz
      obtain ⟨hyx, hrest⟩ := List.cons.inj hz
      have ey : y = us[i] := by simpa using congrArg Prod.fst hyx
      have ex : x = vs[i] := by simpa using congrArg Prod.snd hyx
      subst ey ex
      rw [show (List.range us.size).drop i = i :: (List.range us.size).drop (i + 1) by simp [List.drop_eq_getElem_cons, l1], List.all_cons] at hR
      refine wpAny_bind (ps i l1 l2 _ _ ?_)
      cases fi : f i with
      | true =>
        rw [fi] at hR
        wp_walk
        exact ⟨rfl, rfl, i + 1, hrest, by simpa using hR⟩
      | false =>
        rw [fi] at hR
        wp_walk
        simpa using hR
    case fin =>
      rintro ⟨b1, b2⟩ s' ⟨nb, rfl, i, hz, hR⟩
      dsimp only at nb
      subst nb
      have li : us.size ≤ i := by
        rcases Nat.lt_or_ge i (us.toList.zip vs.toList).length with z | z
        · rw [List.drop_eq_getElem_cons z] at hz
          cases hz
        · exact lz ▸ z
      rw [List.drop_of_length_le (by simpa using li)] at hR
      wp_walk
      simpa [Builtin.Tuple.tupleCompareSizes, len, bne] using hR
    case h => exact ⟨rfl, rfl, 0, rfl, by simpa using fin⟩
  exact wpAny_richCompare_same_room (op := .NotEq) t1 t2 F.slot_tuple_ne (call_meetsIn F.slot_tuple_ne t1 F.entry_tuple_ne (F.args_tuple_ne_2 _ _) body ⟨g1, g2, ps, (fun x => nomatch x), fin⟩) hu
end
end PySem.SeqAt
namespace PySem.W
open SeqAt (EqP)
theorem neDicts {P : Program} {w : World} {κ : Type} [DecidableEq κ] {knd : PySem.KeyKind P w κ} {A : Around} {s : Shared} {p q : Addr} {us vs : List (κ × Value)} {r : Bool} (n1 : (p == sysModules) = false) (n2 : (q == sysModules) = false) (d1 : s.heap.DictOf knd p us) (d2 : s.heap.DictOf knd q vs) (hu : A.units < cLine)
    (hits : us.length = vs.length → KeqHitsP P w A.in1 s vs us r) (E Q : Value → Shared → Prop) (fin : Q (.bool (!(us.length == vs.length && r))) s) : wpAny (model P w) A (richCompare .NotEq (.ref p) (.ref q)) Q E s := by
  refine wpAny_richCompare_same_room (op := .NotEq) d1.typeIs d2.typeIs PySem.F.slot_dict_ne (wpAny_call_entry PySem.F.slot_dict_ne d1.typeIs PySem.F.entry_dict_ne ?_ (PySem.F.args_dict_ne_2 _ _)) hu
  show wpAny _ _ (Builtin.Dict.dictSlotArgs "__ne__" ⟨[.ref p, .ref q], []⟩ >>= _) _ _ s
  unfold Builtin.Dict.dictSlotArgs
  refine wpAny_bind (wpAny_bind (wpAny_notOrdered_dict d1.typeIs ?_))
  refine wpAny_pure ?_
  refine wpAny_bind (wpAny_isInstance (T := "dict") d2.typeIs PySem.F.sub_dict_dict ?_)
  simp only [Bool.not_true, Bool.false_eq_true, if_false]
  refine wpAny_bind (wpAny_pure (wpAny_bind (wpAny_pure ?_)))
  refine wpAny_bind (samePairsP n1 n2 d1 d2 hits ?_)
  exact wpAny_pure ⟨_, rfl, (fun x => nomatch x), by simpa using fin⟩
end PySem.W

set_option Elab.async false
set_option linter.all false
set_option maxRecDepth 100000
set_option maxHeartbeats 4000000
/-! == and != of what is nested: lists, tuples and dicts of flat values and of the same objects, with either answer -/
namespace Pu
open PySem PySem.Spec PyProof.Rows L2
/-- the answers, part by part -/
inductive Ansd (F : V → V → Bool → Prop) : List V → List V → List Bool → Prop
  | nil : Ansd F [] [] []
  | cons {x y : V} {r : Bool} {xs ys : List V} {rs : List Bool} (h : F x y r) (t : Ansd F xs ys rs) : Ansd F (x :: xs) (y :: ys) (r :: rs)
theorem Ansd.len {F : V → V → Bool → Prop} {xs ys : List V} {rs : List Bool} (h : Ansd F xs ys rs) : xs.length = ys.length ∧ rs.length = xs.length := by
  induction h with
  | nil => exact ⟨rfl, rfl⟩
  | cons _ _ ih => exact ⟨congrArg (· + 1) ih.1, congrArg (· + 1) ih.2⟩
theorem Ansd.mono {F G : V → V → Bool → Prop} {xs ys : List V} {rs : List Bool} (h : Ansd F xs ys rs) (k : ∀ x y r, F x y r → G x y r) : Ansd G xs ys rs := by
  induction h with
  | nil => exact .nil
  | cons h _ ih => exact .cons (k _ _ _ h) ih
/-- the answer for the dicts ks and ls -/
inductive Keyd (F : V → V → Bool → Prop) (ls : List (Key × V)) : List (Key × V) → Bool → Prop
  | nil : Keyd F ls [] true
  | miss {k : Key} {x : V} {ks : List (Key × V)} (h : valV ls k = none) : Keyd F ls ((k, x) :: ks) false
  | hit {k : Key} {x y : V} {r q : Bool} {ks : List (Key × V)} (h : valV ls k = some y) (e : F x y r) (t : Keyd F ls ks q) : Keyd F ls ((k, x) :: ks) (r && q)
/-- two objects of one kind -/
def RcB (K : PySem.W.Frag) (H : Hp) (F : V → V → Bool → Prop) (x y : V) (r : Bool) : Prop := ∃ a b, x = .ref a ∧ y = .ref b ∧ (a = b → r = true) ∧
  ((∃ xs ys rs, SqL K H a xs ∧ SqL K H b ys ∧ Ansd F xs ys rs ∧ r = rs.all id) ∨ (∃ xs ys, SqL K H a xs ∧ SqL K H b ys ∧ xs.length ≠ ys.length ∧ r = false) ∨
   (∃ xs ys rs, SqT K H a xs ∧ SqT K H b ys ∧ Ansd F xs ys rs ∧ r = rs.all id) ∨
   (∃ ks ls q, H a = some (.dK ks) ∧ H b = some (.dK ls) ∧ ks.length = ls.length ∧ Keyd F ls ks q ∧ r = q) ∨ ∃ ks ls, H a = some (.dK ks) ∧ H b = some (.dK ls) ∧ ks.length ≠ ls.length ∧ r = false)
/-- two values, nested n deep at most -/
def EqB (K : PySem.W.Frag) (H : Hp) : Nat → V → V → Bool → Prop
  | 0 => fun _ _ _ => False
  | n + 1 => fun x y r => (flatV x = true ∧ flatV y = true ∧ r = eqV x y) ∨ (∃ a, x = .ref a ∧ y = .ref a ∧ r = true) ∨ RcB K H (EqB K H n) x y r
theorem ansd_run {P : Program} {w : World} {A : Around} {s : Shared} {F : V → V → Bool → Prop} (ih : ∀ x y r v u, F x y r → RelV x v → RelV y u → SeqAt.EqP P w A s v u r) {xs ys : List V} {rs : List Bool} (hp : Ansd F xs ys rs) :
    ∀ {us ws : List Value}, Vals xs us → Vals ys ws → ∀ j (h1 : j < us.length) (h2 : j < ws.length), SeqAt.EqP P w A s us[j] ws[j] (rs.getD j true) := by
  induction hp with
  | nil =>
    intro us ws r1 r2 j h1 h2
    cases r1
    exact absurd h1 (Nat.not_lt_zero j)
  | cons h _ k =>
    intro us ws r1 r2 j h1 h2
    cases r1 with
    | cons a1 b1 =>
      cases r2 with
      | cons a2 b2 =>
        cases j with
        | zero => exact ih _ _ _ _ _ h a1 a2
        | succ j => exact k b1 b2 j (Nat.lt_of_succ_lt_succ h1) (Nat.lt_of_succ_lt_succ h2)
theorem all_getD : ∀ rs : List Bool, (List.range rs.length).all (fun j => rs.getD j true) = rs.all id
  | [] => rfl
  | r :: rs => by
    rw [List.length_cons, List.range_succ_eq_map, List.all_cons, List.all_map, List.all_cons, ← all_getD rs]
    rfl
theorem keyd_run {P : Program} {w : World} {A : Around} {s : Shared} {F : V → V → Bool → Prop} (ih : ∀ x y r v u, F x y r → RelV x v → RelV y u → SeqAt.EqP P w A s v u r) {ls : List (Key × V)} {vb : List (Key × Value)} (rb : KV ls vb) {ks : List (Key × V)} {q : Bool} (h : Keyd F ls ks q) :
    ∀ {va : List (Key × Value)}, KV ks va → PySem.W.KeqHitsP P w A s vb va q := by
  induction h with
  | nil =>
    intro va ra
    cases ra
    exact .nil
  | @miss k x ks h =>
    intro va ra
    cases ra with
    | @cons _ p _ ps h1 t =>
      obtain ⟨e1, e2⟩ := h1
      obtain ⟨key, v⟩ := p
      have e1 : k = key := e1
      subst e1
      have rr : RelO none (valueAt vb k) := by rw [← h]; exact rb.val k
      refine .miss ?_
      cases hv : valueAt vb k with
      | none => rfl
      | some y => rw [hv] at rr; exact rr.elim
  | @hit k x y r q ks h e t ih2 =>
    intro va ra
    cases ra with
    | @cons _ p _ ps h1 t1 =>
      obtain ⟨e1, e2⟩ := h1
      obtain ⟨key, v⟩ := p
      have e1 : k = key := e1
      subst e1
      have rr : RelO (some y) (valueAt vb k) := by rw [← h]; exact rb.val k
      obtain ⟨z, hz, rz⟩ := rr.some_of
      exact .hit hz (ih _ _ _ _ _ e e2 rz) (ih2 t1)
section
variable {X : Cx} {pins : List (Addr × Obj)} {σ : L2.St} {H : Hp} {s : Shared}
theorem rcB_run (I : Inv X pins σ H s) {A : Around} {F : V → V → Bool → Prop} (hu : A.units < cLine) (ih : ∀ x y r v u, F x y r → RelV x v → RelV y u → SeqAt.EqP X.prog X.w A.in1 s v u r) {x y : V} {r : Bool} {v u : Value} (h : RcB X.K H F x y r) (rx : RelV x v) (ry : RelV y u) (E Q : Value → Shared → Prop) :
    (Q (.bool r) s → wpAny (model X.prog X.w) A (richCompare .Eq v u) Q E s) ∧ (Q (.bool (!r)) s → wpAny (model X.prog X.w) A (richCompare .NotEq v u) Q E s) := by
  obtain ⟨a, b, rfl, rfl, _, h⟩ := h
  cases (show v = Value.ref a from rx)
  cases (show u = Value.ref b from ry)
  rcases h with ⟨xs, ys, rs, ha, hb, hp, rfl⟩ | ⟨xs, ys, ha, hb, hne, rfl⟩ | ⟨xs, ys, rs, ha, hb, hp, rfl⟩ | ⟨ks, ls, q, ha, hb, hl, hk, rfl⟩ | ⟨ks, ls, ha, hb, hl, rfl⟩
  · obtain ⟨us, r1, p1, _⟩ := I.list ha
    obtain ⟨ws, r2, p2, _⟩ := I.list hb
    obtain ⟨l1, l2⟩ := hp.len
    have hsz : us.toArray.size = ws.toArray.size := by
      rw [List.size_toArray, List.size_toArray, ← r1.length, ← r2.length]
      exact l1
    have all : (List.range us.toArray.size).all (fun j => rs.getD j true) = rs.all id := by
      rw [List.size_toArray, ← r1.length, ← l2]
      exact all_getD rs
    have parts : ∀ j (h1 : j < us.toArray.size) (h2 : j < ws.toArray.size), SeqAt.EqP X.prog X.w A.in1 s us.toArray[j] ws.toArray[j] (rs.getD j true) := fun j h1 h2 => by
      have k := ansd_run ih hp r1 r2 j (by simpa using h1) (by simpa using h2)
      simpa using k
    exact ⟨fun q => SeqAt.rcP_lists (e := fun j => rs.getD j true) p1.isList p2.isList hsz hu parts E Q (by rw [all]; exact q), fun q => SeqAt.neLists (f := fun j => rs.getD j true) p1.isList p2.isList hsz hu parts E Q (by rw [all]; exact q)⟩
  · obtain ⟨us, r1, p1, _⟩ := I.list ha
    obtain ⟨ws, r2, p2, _⟩ := I.list hb
    have hsz : (us.toArray.size != ws.toArray.size) = true := by
      rw [List.size_toArray, List.size_toArray, ← r1.length, ← r2.length]
      simpa using hne
    exact ⟨fun q => SeqAt.RcAt.lists_lengths p1.isList p2.isList hsz hu _ _ _ _ q, fun q => SeqAt.RcNeAt.lists_lengths p1.isList p2.isList hsz hu _ _ _ _ q⟩
  · obtain ⟨us, r1, p1, _⟩ := I.tuple ha
    obtain ⟨ws, r2, p2, _⟩ := I.tuple hb
    obtain ⟨l1, l2⟩ := hp.len
    have hsz : us.toArray.size = ws.toArray.size := by
      rw [List.size_toArray, List.size_toArray, ← r1.length, ← r2.length]
      exact l1
    have all : (List.range us.toArray.size).all (fun j => rs.getD j true) = rs.all id := by
      rw [List.size_toArray, ← r1.length, ← l2]
      exact all_getD rs
    have parts : SeqAt.Parts X.prog X.w A.in1 s us.toArray ws.toArray (fun j => rs.getD j true) := fun j h1 h2 => by
      have k := ansd_run ih hp r1 r2 j (by simpa using h1) (by simpa using h2)
      simpa using k
    exact ⟨fun q => SeqAt.eqTuples p1 p2 hsz hu parts E Q (by rw [all]; exact q), fun q => SeqAt.neTuples p1 p2 hsz hu parts E Q (by rw [all]; exact q)⟩
  · obtain ⟨_, ya, va, ra, da⟩ := (show ObjOk X.prog X.w H s.heap a (.dK ks) from I.hok a _ ha)
    obtain ⟨_, yb, vb, rb, db⟩ := (show ObjOk X.prog X.w H s.heap b (.dK ls) from I.hok b _ hb)
    have e : va.length = vb.length := by rw [← ra.length, ← rb.length]; exact hl
    exact ⟨fun z => PySem.W.rcP_dicts (knd := mixKind X.prog X.w) ya yb da db hu (fun _ => keyd_run ih rb hk ra) E Q (by rw [e, beq_self_eq_true, Bool.true_and]; exact z),
      fun z => PySem.W.neDicts (knd := mixKind X.prog X.w) ya yb da db hu (fun _ => keyd_run ih rb hk ra) E Q (by rw [e, beq_self_eq_true, Bool.true_and]; exact z)⟩
  · obtain ⟨_, ya, va, ra, da⟩ := (show ObjOk X.prog X.w H s.heap a (.dK ks) from I.hok a _ ha)
    obtain ⟨_, yb, vb, rb, db⟩ := (show ObjOk X.prog X.w H s.heap b (.dK ls) from I.hok b _ hb)
    have e : va.length ≠ vb.length := by rw [← ra.length, ← rb.length]; exact hl
    have e2 : (va.length == vb.length) = false := by simpa using e
    exact ⟨fun z => PySem.W.rcP_dicts (knd := mixKind X.prog X.w) (r := true) ya yb da db hu (fun z => absurd z e) E Q (by rw [e2, Bool.false_and]; exact z),
      fun z => PySem.W.neDicts (knd := mixKind X.prog X.w) (r := true) ya yb da db hu (fun z => absurd z e) E Q (by rw [e2, Bool.false_and]; exact z)⟩
theorem eqB_run (I : Inv X pins σ H s) : ∀ (n : Nat) (A : Around), A.units + n < cLine → ∀ (x y : V) (r : Bool) (v u : Value), EqB X.K H n x y r → RelV x v → RelV y u → SeqAt.EqP X.prog X.w A s v u r
  | 0, _, _, _, _, _, _, _, h, _, _ => (show False from h).elim
  | n + 1, A, hu, x, y, r, v, u, h, rx, ry => by
    rcases h with ⟨f1, f2, rfl⟩ | ⟨a, rfl, rfl, rfl⟩ | h
    · exact (eqAt_V rx ry f1 f2).eqP
    · cases (show v = Value.ref a from rx)
      cases (show u = Value.ref a from ry)
      exact (SeqAt.EqAt.same _).eqP
    · have step := fun E Q => (rcB_run I (A := A) (by omega) (eqB_run I n A.in1 (by show A.units + 1 + n < cLine; omega)) h rx ry E Q).1
      obtain ⟨a, b, rfl, rfl, h3, h2⟩ := h
      cases (show v = Value.ref a from rx)
      cases (show u = Value.ref b from ry)
      by_cases e : a = b
      · subst e
        rw [h3 rfl]
        exact (SeqAt.EqAt.same _).eqP
      · exact SeqAt.eqP_refs e step
/-- x == y, x != y -/
def rEqB (K : PySem.W.Frag) (neg : Bool) : R2 := fun x y H Q => ∃ n r, n ≤ 60 ∧ RcB K H (EqB K H n) x y r ∧ Q (.bl (if neg then !r else r)) H
theorem op_eqB {X : Cx} {k : Nat} (K : PySem.W.Frag) (hr : Room k X.A) (h : X.K = K := by rfl) : OpR X (compareOp .Eq) (rEqB K false) := by
  subst h
  intro pins s σ H x y v u Q I rx ry h
  obtain ⟨n, r, hn, h, q⟩ := h
  have hu := hr.units
  exact (rcB_run I (A := X.A) (by omega) (eqB_run I n X.A.in1 (by show X.A.units + 1 + n < cLine; omega)) h rx ry _ _).1 ⟨.bl r, H, I, rfl, q⟩
theorem op_neB {X : Cx} {k : Nat} (K : PySem.W.Frag) (hr : Room k X.A) (h : X.K = K := by rfl) : OpR X (compareOp .NotEq) (rEqB K true) := by
  subst h
  intro pins s σ H x y v u Q I rx ry h
  obtain ⟨n, r, hn, h, q⟩ := h
  have hu := hr.units
  exact (rcB_run I (A := X.A) (by omega) (eqB_run I n X.A.in1 (by show X.A.units + 1 + n < cLine; omega)) h rx ry _ _).2 ⟨.bl (!r), H, I, rfl, q⟩
end
/-! ### the pieces by hand -/
section
variable {K : PySem.W.Frag} {H : Hp}
theorem eqb_flat {n : Nat} {x y : V} (h1 : flatV x = true) (h2 : flatV y = true) : EqB K H (n + 1) x y (eqV x y) := .inl ⟨h1, h2, rfl⟩
theorem eqb_same {n : Nat} {a : Addr} : EqB K H (n + 1) (.ref a) (.ref a) true := .inr (.inl ⟨a, rfl, rfl, rfl⟩)
theorem eqb_obj {n : Nat} {x y : V} {r : Bool} (h : RcB K H (EqB K H n) x y r) : EqB K H (n + 1) x y r := .inr (.inr h)
theorem eqV_self {x : V} (h : flatV x = true) : eqV x x = true := by
  cases x with
  | non => rfl
  | bl b => exact beq_self_eq_true b
  | int i => exact beq_self_eq_true i
  | str z => exact beq_self_eq_true z
  | _ => cases h
/-- the same, flat or an object -/
def AnyV : V → Prop
  | .ref _ => True
  | v => flatV v = true
theorem eqb_refl {n : Nat} {x : V} (h : AnyV x) : EqB K H (n + 1) x x true := by
  have f : ∀ {v : V}, flatV v = true → EqB K H (n + 1) v v true := fun {v} hv => .inl ⟨hv, hv, (eqV_self hv).symm⟩
  cases x with
  | ref a => exact eqb_same
  | non => exact f rfl
  | bl b => exact f rfl
  | int i => exact f rfl
  | str z => exact f rfl
  | _ => exact f h
theorem ansd_all {F : V → V → Bool → Prop} {xs ys : List V} (h : xs.length = ys.length) (k : ∀ (i : Nat) x y, xs[i]? = some x → ys[i]? = some y → F x y true) : Ansd F xs ys (xs.map fun _ => true) := by
  induction xs generalizing ys with
  | nil =>
    cases ys with
    | nil => exact .nil
    | cons _ _ => cases h
  | cons x r ih =>
    cases ys with
    | nil => cases h
    | cons y t => exact .cons (k 0 x y rfl rfl) (ih (Nat.succ.inj h) fun i x y h1 h2 => k (i + 1) x y h1 h2)
theorem all_true {α : Type} (xs : List α) : (xs.map fun _ => true).all id = true := by
  rw [List.all_map, List.all_eq_true]
  intro _ _
  rfl
/-- two dicts with the same values -/
theorem keyd_all {F : V → V → Bool → Prop} {ls : List (Key × V)} : ∀ {ks : List (Key × V)}, (∀ p ∈ ks, ∃ y, valV ls p.1 = some y ∧ F p.2 y true) → Keyd F ls ks true
  | [], _ => .nil
  | (k, x) :: r, h => by
    obtain ⟨y, h1, h2⟩ := h (k, x) (List.mem_cons_self ..)
    exact .hit (r := true) (q := true) h1 h2 (keyd_all fun p hp => h p (List.mem_cons_of_mem _ hp))
/-- two dicts of flat values: with either answer -/
theorem keyd_flat {n : Nat} {ls : List (Key × V)} : ∀ {ks : List (Key × V)}, (∀ p ∈ ks, flatV p.2 = true ∧ ∃ y, valV ls p.1 = some y ∧ flatV y = true) → Keyd (EqB K H (n + 1)) ls ks (ks.all fun p => match valV ls p.1 with | some y => eqV p.2 y | none => false)
  | [], _ => .nil
  | (k, x) :: r, h => by
    obtain ⟨h0, y, h1, h2⟩ := h (k, x) (List.mem_cons_self ..)
    have t := keyd_flat (n := n) (ks := r) fun p hp => h p (List.mem_cons_of_mem _ hp)
    have e : (((k, x) :: r).all fun p => match valV ls p.1 with | some y => eqV p.2 y | none => false) = (eqV x y && r.all fun p => match valV ls p.1 with | some y => eqV p.2 y | none => false) := by
      rw [List.all_cons]
      dsimp only
      rw [h1]
    rw [e]
    exact .hit h1 (eqb_flat h0 h2) t
end
end Pu

set_option Elab.async false
set_option linter.all false
set_option maxRecDepth 100000
set_option maxHeartbeats 4000000
/-! an own class made with two values, its one keyword-only parameter left out or written -/
namespace Pu
open PySem PySem.Spec PyProof.Rows L2
structure CalMk (P : Program) (w : World) (K : PySem.W.Frag) (mg : Str → Option Value) (base : Heap) (CX : CXT) (k : Nat) (x : Str) (C : Addr) (kw : Str) (sp : Sp) : Prop where
  ex : ∃ (f : Addr) (fd : FuncData) (ps : List Str) (ds : List Value) (g : List Value → List Value → List Value), Mk K C f ∧ FnOk P w K mg base CX k f fd ps sp ∧ mg x = some (.ref C) ∧ Binds K fd ps ds ∧ Vals [.non] ds ∧ KBn K fd ps 3 [kw] g (fun vs zs => vs ++ zs)
section
variable {X : Cx} {CX : CXT} {k j : Nat} {x kw : Str} {C : Addr} {sp : Sp} {E : XK} {e : Expr} {es : List Expr} {kws : List Keyword} {t tk : TA} {p pos : Pos}
theorem pe_mk (c : CalMk X.prog X.w X.K X.mg X.base CX k x C kw sp) (hr : Room j X.A) (hk : k + 1 ≤ j) (hg : Gl X x) (hx : Passes CX X E) (ha : PA X (e :: es) t)
    (hdb : (x == ("__debug__" : Str)) = false := by decide) (he : starEach (e :: es) X.env = (false, eval e X.env) :: starEach es X.env := by rfl) (hpl : (backTo pos (starEach es X.env)).any (·.1) = false := by rfl) :
    PE X (.Call (.Name x p) (e :: es) [] pos) (tMake C sp [.non] E t) := by
  obtain ⟨f, fd, ps, ds, g, M, F, hm, b, d, kb⟩ := c.ex
  exact pe_make M F (hr.mono hk) hg hm b d hx ha hdb he hpl
theorem pe_mkK (c : CalMk X.prog X.w X.K X.mg X.base CX k x C kw sp) (hr : Room j X.A) (hk : k + 1 ≤ j) (hg : Gl X x) (hx : Passes CX X E) (ha : PA X (e :: es) t) (hw : PK X kws tk)
    (hall : (backToKw pos (keywordEach kws X.env)).all (·.1.isSome) = true := by rfl) (hks : (backToKw pos (keywordEach kws X.env)).filterMap (·.1) = [kw] := by rfl)
    (hdb : (x == ("__debug__" : Str)) = false := by decide) (he : starEach (e :: es) X.env = (false, eval e X.env) :: starEach es X.env := by rfl)
    (hpl : ((backTo pos (starEach (e :: es) X.env)).any (·.1) || (backToKw pos (keywordEach kws X.env)).any (·.1.isNone)) = false := by rfl) :
    PE X (.Call (.Name x p) (e :: es) kws pos) (tMakeK C 2 1 sp (fun vs zs => vs ++ zs) E t tk) := by
  obtain ⟨f, fd, ps, ds, g, M, F, hm, b, d, kb⟩ := c.ex
  exact pe_makeK M F (hr.mono hk) hg hm kb hx ha hw hall hks hdb he hpl
end
end Pu

set_option Elab.async false
set_option linter.all false
set_option maxRecDepth 100000
set_option maxHeartbeats 4000000
namespace Pk
open PySem PySem.Spec PyProof.Rows L2 Pu
abbrev s_law_plan : Stmt := topS 52
theorem sc_law_plan : FnScope ["_law_model_here"] ["_law_model_here"] (defScope s_law_plan) := ⟨rfl, rfl, rfl, by decide +kernel, rfl, by decide +kernel, by decide +kernel⟩

section
variable {P : Program} {w : World} {K : PySem.W.Frag} {mg : Str → Option Value} {base : Heap}
/-! ### the plan itself -/
def spPlanM (K : PySem.W.Frag) (C : Addr) : Sp := fun vs H Q _ => ∃ (b m : Addr) (d : PlanD), vs = [.ref m] ∧ ModAt b H m d ∧ PlanOk d ∧ ∀ p H', Same H H' → H p = none → PlanAt K C H' p d → Q (.ref p) H'
theorem ok_plan {C f : Addr} {fd : FuncData} (F : Fun K "_law_plan" "_law_plan" s_law_plan f fd) (T : Txt mg) (cPlan : CalMk P w K mg base CX0 5 "Plan" C "limits" (spInit K C)) :
    FnOk P w K mg base CX0 7 f fd ["_law_model_here"] (spPlanM K C) := by
  have nd := sc_law_plan.nd
  refine F.ok sc_law_plan (fun vs H Q E h => ?_) (fun cdv A outer s H vs Q E hr h => ?_)
  · obtain ⟨_, _, _, rfl, _⟩ := h
    rfl
  · obtain ⟨b, m, d, rfl, hm, ok, q⟩ := h
    refine ⟨_, (pss_one (ps_ret (pe_mkK cPlan hr (by decide) rfl pass0 (pa_cons (pe_ix (ixL K) (pv 0) pe_int (fun _ _ => rfl)) (pa_cons (pe_ix (ixL K) (pv 0) pe_int (fun _ _ => rfl)) pa_nil)) (pk_cons (pe_ix (ixL K) (pv 0) pe_int (fun _ _ => rfl)) pk_nil)))), ?_⟩
    obtain ⟨e, t, c, ts, h1, h2, h3, h4, h5, n1, n2, n3, n4, n5⟩ := hm
    refine ⟨_, rfl, m, _, ((0 : Nat) : Int), .ref e, rfl, rfl, .inl (.inl h1), atI_nat rfl, _, rfl, m, _, ((1 : Nat) : Int), .ref t, rfl, rfl, .inl (.inl h1), atI_nat rfl, _, rfl, m, _, ((2 : Nat) : Int), .ref c, rfl, rfl, .inl (.inl h1), atI_nat rfl, rfl, rfl, fun x dx hx hdx hne => ?_⟩
    have sx : Same H (upd (upd H dx (.own x)) x (.ins C dx [])) := Same.trans (same_upd hdx) (same_upd (by rw [upd_ne hne.symm]; exact hx))
    refine ⟨x, dx, e, t, .ref c, ts, d, rfl, upd_same, .inl (.inl (.inl (sx _ _ h2))), .inl (.inl (.inl (sx _ _ h3))), h4.same sx, .inr ⟨c, rfl, sx _ _ h5⟩, ok, fun H6 e6 hp6 => ⟨rfl, q x H6 (fun a o h => ?_) hx hp6⟩⟩
    exact e6 _ _ (ne_of_none h hx) (sx _ _ h)

end
end Pk

set_option Elab.async false
set_option linter.all false
set_option maxRecDepth 100000
set_option maxHeartbeats 4000000
namespace Pk
open PySem PySem.Spec PyProof.Rows L2 Pu
abbrev s_places_of : Stmt := topS 3
theorem sc_places_of : FnScope ["plan"] ["plan"] (defScope s_places_of) := ⟨rfl, rfl, rfl, by decide +kernel, rfl, by decide +kernel, by decide +kernel⟩
abbrev s_placed_rows : Stmt := topS 4
theorem sc_placed_rows : FnScope ["plan", "events", "limits", "rows", "index", "earlier", "later", "lag", "event"] ["plan"] (defScope s_placed_rows) := ⟨rfl, rfl, rfl, by decide +kernel, rfl, by decide +kernel, by decide +kernel⟩

section
variable {P : Program} {w : World} {K : PySem.W.Frag} {mg : Str → Option Value} {base : Heap}
/-! ### the places of a plan -/
def spPlaces (K : PySem.W.Frag) (C : Addr) : Sp := fun vs H Q _ => ∃ (p : Addr) (d : PlanD), vs = [.ref p] ∧ PlanAt K C H p d ∧ d.evs.length ≤ 8 ∧ ∀ q H', Same H H' → H q = none → H' q = some (.lst ((("" : Str) :: d.evs).map V.str)) → Q (.ref q) H'
theorem ok_places_of {C f : Addr} {fd : FuncData} (F : Fun K "places_of" "places_of" s_places_of f fd) (T : Txt mg) (PI : PlanI K C) (cEvents : CalM P w K mg base 1 C "events" (spPEvents K C)) : FnOk P w K mg base CX0 2 f fd ["plan"] (spPlaces K C) := by
  have nd := sc_places_of.nd
  refine F.ok sc_places_of (fun vs H Q E h => ?_) (fun cdv A outer s H vs Q E hr h => ?_)
  · obtain ⟨_, _, rfl, _⟩ := h
    rfl
  · obtain ⟨p, d, rfl, hp, hl, q⟩ := h
    refine ⟨_, (pss_one (ps_ret (pe_lst (pa_cons (pe_gs rfl T.m_NOTHING) (StX.pa_star (pe_m0' (pv 0) PI.cls cEvents hr (by decide)) pa_nil))))), ?_⟩
    obtain ⟨dx, o, r, cc, ts0, g1, _⟩ := id hp.ex
    refine ⟨_, rfl, p, dx, _, rfl, g1, rfl, p, d, rfl, hp, fun l nl => ⟨l, _, rfl, .inr (.inl (.inl upd_same)), ?_, fun D hD => ?_⟩⟩
    · rw [List.append_nil, List.length_cons, List.length_map]
      exact Nat.le_trans (by omega) (sz 100)
    · have s1 : Same H (upd H l (.lst (d.evs.map V.str))) := same_upd nl
      refine q D _ (Same.trans s1 (same_upd hD)) (s1.free hD) ?_
      rw [upd_same, List.append_nil]
      rfl
/-! ### the rows of a plan, each with where it leads -/
abbrev PRow := Str × Str × Int × Str × V
def rowPV (r : PRow) (t : Addr) : List V := [.str r.1, .str r.2.1, .int r.2.2.1, .ref t]
def RowsAt (H : Hp) (as : List Addr) (rs : List PRow) : Prop := Paired (fun a r => ∃ t, H a = some (.tup (rowPV r t)) ∧ H t = some (.tup [.str r.2.2.2.1, r.2.2.2.2])) as rs
theorem RowsAt.keep {H H' : Hp} {as : List Addr} {rs : List PRow} (h : RowsAt H as rs) (k : ∀ a xs, H a = some (.tup xs) → H' a = some (.tup xs)) : RowsAt H' as rs := Paired.mapP h fun _ _ ⟨t, h1, h2⟩ => ⟨t, k _ _ h1, k _ _ h2⟩
theorem RowsAt.same {H H' : Hp} {as : List Addr} {rs : List PRow} (h : RowsAt H as rs) (s : Same H H') : RowsAt H' as rs := h.keep fun _ _ e => s _ _ e
theorem RowsAt.put {H : Hp} {as : List Addr} {rs : List PRow} {D : Addr} {o u : HO} (h : RowsAt H as rs) (hD : H D = some u) (hu : ∀ xs, u ≠ .tup xs) : RowsAt (upd H D o) as rs := h.keep fun a xs e => by
  rw [upd_ne]
  · exact e
  · intro z
    rw [z, hD] at e
    exact hu _ (Option.some.inj e)
theorem RowsAt.snoc {H : Hp} {as : List Addr} {rs : List PRow} {a t : Addr} {r : PRow} (h : RowsAt H as rs) (h1 : H a = some (.tup (rowPV r t))) (h2 : H t = some (.tup [.str r.2.2.2.1, r.2.2.2.2])) : RowsAt H (as ++ [a]) (rs ++ [r]) := by
  unfold RowsAt at *
  induction h with
  | nil => exact .cons ⟨t, h1, h2⟩ .nil
  | cons r _ ih => exact .cons r ih
theorem RowsAt.app {H : Hp} {as bs : List Addr} {rs ss : List PRow} (h : RowsAt H as rs) (h2 : RowsAt H bs ss) : RowsAt H (as ++ bs) (rs ++ ss) := by
  unfold RowsAt at *
  induction h with
  | nil => exact h2
  | cons r _ ih => exact .cons r ih
theorem RowsAt.len {H : Hp} {as : List Addr} {rs : List PRow} (h : RowsAt H as rs) : as.length = rs.length := Paired.length h
def capOf (cs : List (Str × Int)) (e : Str) : Option Int := (cs.find? fun c => decide (c.1 = e)).map (·.2)
theorem valV_capOf {cs : List (Str × Int)} {e : Str} : valV (capsV cs) (.inr e) = (capOf cs e).map V.int := by
  induction cs with
  | nil => rfl
  | cons c r ih =>
    show Option.map (·.2) (List.find? _ ((.inr c.1, .int c.2) :: capsV r)) = Option.map V.int (Option.map (·.2) (List.find? _ (c :: r)))
    rw [List.find?_cons, List.find?_cons]
    by_cases h : c.1 = e
    · rw [decide_eq_true h, decide_eq_true (show (Sum.inr c.1 : Key) = .inr e by rw [h])]
      rfl
    · rw [decide_eq_false h, decide_eq_false (fun q : (Sum.inr c.1 : Key) = .inr e => h (Sum.inr.inj q))]
      exact ih
def rowsT (ties : List (Str × Str × Int)) : List PRow := ties.zipIdx.map fun t => (t.1.1, t.1.2.1, t.1.2.2, ("tie" : Str), V.int (t.2 : Nat))
def rowsC (cs : List (Str × Int)) (es : List Str) : List PRow := (es.filter fun e => (capOf cs e).isSome).map fun e => (("" : Str), e, (capOf cs e).getD 0, ("limit" : Str), V.str e)
def rowsN (es : List Str) : List PRow := es.map fun e => (e, ("" : Str), (0 : Int), ("none" : Str), V.str e)
def planRows (d : PlanD) : List PRow := rowsT d.ties ++ rowsC d.caps d.evs ++ rowsN d.evs
theorem rowsT_snoc {ties : List (Str × Str × Int)} {i : Nat} {t : Str × Str × Int} (h : ties[i]? = some t) : rowsT (ties.take (i + 1)) = rowsT (ties.take i) ++ [(t.1, t.2.1, t.2.2, ("tie" : Str), V.int (i : Nat))] := by
  have hi := (List.getElem?_eq_some_iff.mp h).1
  unfold rowsT
  rw [List.take_add_one, h]
  show List.map _ (List.zipIdx (ties.take i ++ [t])) = _
  rw [List.zipIdx_append, List.map_append, List.length_take, Nat.min_eq_left (Nat.le_of_lt hi), Nat.zero_add]
  rfl
/-- one row more in a comprehension -/
theorem row_step {H3 H5 : Hp} {D T1 T2 : Addr} {as : List Addr} {rs rs' : List PRow} {i n : Nat} {f l k : Str} {a : Int} {x : V} (hD : H3 D = none) (hD5 : H5 D = some (.lst (as.map V.ref))) (hR : RowsAt H5 as rs) (s : Same H3 H5) (hla : as.length ≤ i) (hi : i < n) (e : rs' = rs ++ [(f, l, a, k, x)])
    (n2 : H5 T2 = none) (n1 : (upd H5 T2 (.tup [.str k, x])) T1 = none) (h60 : n ≤ 100 := by omega) : ∃ acc, (upd (upd H5 T2 (.tup [.str k, x])) T1 (.tup [.str f, .str l, .int a, .ref T2])) D = some (.lst acc) ∧ acc.length < sizeLine ∧
    (Same H3 (upd (upd (upd H5 T2 (.tup [.str k, x])) T1 (.tup [.str f, .str l, .int a, .ref T2])) D (.lst (acc ++ [.ref T1]))) ∧ ∃ as', (upd (upd (upd H5 T2 (.tup [.str k, x])) T1 (.tup [.str f, .str l, .int a, .ref T2])) D (.lst (acc ++ [.ref T1]))) D = some (.lst (as'.map V.ref)) ∧
      RowsAt (upd (upd (upd H5 T2 (.tup [.str k, x])) T1 (.tup [.str f, .str l, .int a, .ref T2])) D (.lst (acc ++ [.ref T1]))) as' rs' ∧ as'.length ≤ i + 1) := by
  have s2 : Same H5 (upd (upd H5 T2 (.tup [.str k, x])) T1 (.tup [.str f, .str l, .int a, .ref T2])) := Same.trans (same_upd n2) (same_upd n1)
  have h12 : T2 ≠ T1 := fun z => by
    rw [← z, upd_same] at n1
    cases n1
  have hd := s2 _ _ hD5
  have ht1 : (upd (upd H5 T2 (.tup [.str k, x])) T1 (.tup [.str f, .str l, .int a, .ref T2])) T1 = some (.tup (rowPV (f, l, a, k, x) T2)) := upd_same
  have ht2 : (upd (upd H5 T2 (.tup [.str k, x])) T1 (.tup [.str f, .str l, .int a, .ref T2])) T2 = some (.tup [.str k, x]) := by
    rw [upd_ne h12, upd_same]
  refine ⟨_, hd, ?_, same_put hD (Same.trans s s2), as ++ [T1], by rw [upd_same, List.map_append]; rfl, ?_, by rw [List.length_append]; show _ + 1 ≤ _; omega⟩
  · rw [List.length_map]
    exact Nat.lt_of_lt_of_le (by omega) (sz 1000)
  · rw [e]
    exact ((hR.same s2).snoc (r := (f, l, a, k, x)) ht1 ht2).put hd fun _ z => nomatch z
def spRows (K : PySem.W.Frag) (C : Addr) : Sp := fun vs H Q _ => ∃ (p : Addr) (d : PlanD), vs = [.ref p] ∧ PlanAt K C H p d ∧ PlanOk d ∧ ∀ q as H', Same H H' → H q = none → H' q = some (.lst (as.map V.ref)) → RowsAt H' as (planRows d) → Q (.ref q) H'
theorem ok_placed_rows {C f : Addr} {fd : FuncData} (F : Fun K "placed_rows" "placed_rows" s_placed_rows f fd) (T : Txt mg) (PI : PlanI K C) (cEvents : CalM P w K mg base 1 C "events" (spPEvents K C)) (cTies : CalM P w K mg base 1 C "ties" (spPTies K C)) (cLimits : CalM P w K mg base 1 C "limits" (spPLimits K C)) :
    FnOk P w K mg base CX0 2 f fd ["plan"] (spRows K C) := by
  have nd := sc_placed_rows.nd
  refine F.ok sc_placed_rows (fun vs H Q E h => ?_) (fun cdv A outer s H vs Q E hr h => ?_)
  · obtain ⟨_, _, rfl, _⟩ := h
    rfl
  · obtain ⟨p, d, rfl, hp, ok, q⟩ := h
    have hu := hu_of hr
    have hl8 := ok.evs.hi
    have ht60 := ok.tl
    refine ⟨_, (pss_cons (ps_set (i := 1) nd rfl (Or.inl rfl) (pe_m0' (pv 0) PI.cls cEvents hr (by decide)))
      (pss_cons (ps_set (i := 2) nd rfl (Or.inr rfl) (pe_m0' (pv 0) PI.cls cLimits hr (by decide)))
      (pss_cons (ps_setLc (i := 3) (y := "rows") (own := [("index", 4), ("earlier", 5), ("later", 6), ("lag", 7)]) (g := (gTup K 2 (gCons (gName 4) (gCons (gTup K 3 (gCons (gName 5) (gCons (gName 6) (gCons (gName 7) gNil)))) gNil)))) (tt := tYes) rfl nd rfl rfl (sw_true rfl rfl rfl (by decide +kernel)) (pi_enum rfl T.m_enumerate (pa_cons (pe_m0' (pv 0) PI.cls cTies hr (by decide)) pa_nil)) (blkOk_by (N := ["plan", "events", "limits", "rows", "index", "earlier", "later", "lag", "event"]) (sc := defScope s_placed_rows) (by decide +kernel)) (fun _ _ _ _ _ => (pg_tup rfl (pgs_cons (pg_name (i := 4) nd rfl (Or.inl rfl)) (pgs_cons (pg_tup rfl (pgs_cons (pg_name (i := 5) nd rfl (Or.inl rfl)) (pgs_cons (pg_name (i := 6) nd rfl (Or.inl rfl)) (pgs_cons (pg_name (i := 7) nd rfl (Or.inl rfl)) pgs_nil)))) pgs_nil)))) (fun _ _ _ _ _ => pts_nil) (fun _ _ _ _ _ => (pe_tup (pa_cons (pv 5) (pa_cons (pv 6) (pa_cons (pv 7) (pa_cons (pe_tup (pa_cons pe_str (pa_cons (pv 4) pa_nil))) pa_nil)))))))
      (pss_cons (ps_expr (pe_bm PySem.F.plainAttrs_list PySem.F.slot_list_extend PySem.F.type_list_extend mt_extend (pv 3) (pa_cons (pe_lc (own := [("event", 8)]) (g := gName 8) rfl nd (pi_list (pv 1)) (blkOk_by (N := ["plan", "events", "limits", "rows", "index", "earlier", "later", "lag", "event"]) (sc := defScope s_placed_rows) (by decide +kernel)) (fun _ _ _ _ _ => pg_name (i := 8) nd rfl (Or.inl rfl)) (fun _ _ _ _ _ => pts_one (pt_cmp (pc_din hu (pv 8) (pv 2)) (by rfl))) (fun _ _ _ _ _ => (pe_tup (pa_cons (pe_gs rfl T.m_NOTHING) (pa_cons (pv 8) (pa_cons (pe_dget hu (pv 2) (pv 8) (fun _ _ => rfl)) (pa_cons (pe_tup (pa_cons pe_str (pa_cons (pv 8) pa_nil))) pa_nil))))))) pa_nil)))
      (pss_cons (ps_expr (pe_bm PySem.F.plainAttrs_list PySem.F.slot_list_extend PySem.F.type_list_extend mt_extend (pv 3) (pa_cons (pe_lc (own := [("event", 8)]) (g := gName 8) (tt := tYes) rfl nd (pi_list (pv 1)) (blkOk_by (N := ["plan", "events", "limits", "rows", "index", "earlier", "later", "lag", "event"]) (sc := defScope s_placed_rows) (by decide +kernel)) (fun _ _ _ _ _ => pg_name (i := 8) nd rfl (Or.inl rfl)) (fun _ _ _ _ _ => pts_nil) (fun _ _ _ _ _ => (pe_tup (pa_cons (pv 8) (pa_cons (pe_gs rfl T.m_NOTHING) (pa_cons pe_int (pa_cons (pe_tup (pa_cons pe_str (pa_cons (pv 8) pa_nil))) pa_nil))))))) pa_nil)))
      (pss_one (ps_ret (pv 3)))))))), ?_⟩
    obtain ⟨dx, o, r, cc, ts0, g1, _⟩ := id hp.ex
    refine seq_asg ?_
    refine ⟨_, rfl, p, dx, _, rfl, g1, rfl, p, d, rfl, hp, fun l nl => ?_⟩
    have hl1 : (upd H l (.lst (d.evs.map V.str))) l = some (.lst (d.evs.map V.str)) := upd_same
    have s1 : Same H (upd H l (.lst (d.evs.map V.str))) := same_upd nl
    revert hl1 s1
    generalize upd H l (.lst (d.evs.map V.str)) = H1
    intro hl1 s1
    have hp1 := hp.same s1
    obtain ⟨dx1, o1, r1, cc1, ts1, g2, _⟩ := id hp1.ex
    refine gname (seq_asg ?_)
    refine ⟨_, rfl, p, dx1, _, rfl, g2, rfl, p, d, rfl, hp1, fun m nm => ?_⟩
    have hl2 : (upd H1 m (.dK (capsV d.caps))) l = some (.lst (d.evs.map V.str)) := same_upd nm _ _ hl1
    have hm2 : (upd H1 m (.dK (capsV d.caps))) m = some (.dK (capsV d.caps)) := upd_same
    have s2 : Same H (upd H1 m (.dK (capsV d.caps))) := Same.trans s1 (same_upd nm)
    revert hl2 hm2 s2
    generalize upd H1 m (.dK (capsV d.caps)) = H2
    intro hl2 hm2 s2
    clear g1 g2 hl1 s1 hp1 nl nm
    have hp2 := hp.same s2
    obtain ⟨dx2, o2, r2, cc2, ts2, g3, _⟩ := id hp2.ex
    refine gname (seq_asg ?_)
    refine ⟨_, rfl, p, dx2, _, rfl, g3, rfl, p, d, rfl, hp2, fun t ts nt htl => ⟨t, _, rfl, .inl (.inl upd_same), fun D hD => ?_⟩⟩
    have ht3 : (upd H2 t (.lst (ts.map V.ref))) t = some (.lst (ts.map V.ref)) := upd_same
    have s23 : Same H2 (upd H2 t (.lst (ts.map V.ref))) := same_upd nt
    have htl3 := htl.same s23
    revert hD ht3 s23 htl3
    generalize upd H2 t (.lst (ts.map V.ref)) = H3
    intro hD ht3 s23 htl3
    clear htl nt g3
    have s03 := Same.trans s2 s23
    have hlD : l ≠ D := ne_of_none (s23 _ _ hl2) hD
    refine lc_it (walk_enum (K := K) (a := t) (xs := ts.map V.ref)) (fun i H' => Same H3 H' ∧ ∃ as, H' D = some (.lst (as.map V.ref)) ∧ RowsAt H' as (rowsT (d.ties.take i)) ∧ as.length ≤ i) ⟨same_upd hD, [], upd_same, .nil, Nat.le_refl _⟩ (fun i H' _ pv => .inl (.inl (pv.1 _ _ ht3))) (fun i x H4 H5 hi pv yv => ?_) (fun H4 pv => ?_)
    · obtain ⟨s4, as, hD4, hR4, hla⟩ := pv
      obtain ⟨TT, u, z, rfl, nT, rfl, hu', hz⟩ := yv
      cases hu'
      obtain ⟨ct, tt, rfl, hmem, hget, hcell⟩ := (htl3.same s4).get hz
      rw [List.length_map, htl3.length] at hi
      have s45 : Same H4 (upd H4 TT (.tup [.int (i : Nat), .ref ct])) := same_upd nT
      have hcell5 := s45 _ _ hcell
      have hTT : (upd H4 TT (.tup [.int (i : Nat), .ref ct])) TT = some (.tup [.int (i : Nat), .ref ct]) := upd_same
      have s35 := Same.trans s4 s45
      have hD5 := s45 _ _ hD4
      have hR5 := hR4.same s45
      revert hTT hcell5 s35 hD5 hR5
      clear s45 hcell hR4 hD4 s4
      generalize upd H4 TT (.tup [.int (i : Nat), .ref ct]) = H5
      intro hcell5 hTT s35 hD5 hR5
      refine ⟨TT, _, rfl, .inl (.inl hTT), rfl, _, _, rfl, _, _, rfl, ct, _, rfl, .inl (.inl hcell5), rfl, _, _, rfl, _, _, rfl, _, _, rfl, rfl, rfl, rfl, ?_⟩
      refine ⟨_, rfl, _, rfl, _, rfl, _, rfl, sz 2, fun T2 nT2 => ⟨sz 4, fun T1 nT1 => ?_⟩⟩
      exact row_step hD hD5 hR5 s35 hla hi (rowsT_snoc hget) nT2 nT1
    · obtain ⟨s4, as1, hD4, hR4, hla⟩ := pv
      rw [List.length_map, htl3.length, List.take_length] at hR4
      rw [List.length_map, htl3.length] at hla
      have nD : H D = none := s03.free hD
      have s04 := Same.trans s03 s4
      have hl4 := s4 _ _ (s23 _ _ hl2)
      have hm4 := s4 _ _ (s23 _ _ hm2)
      refine gname (seq_st ?_)
      clear s4 hD ht3 htl3 s23 hl2 hm2 s03
      -- the limits
      refine ⟨_, rfl, .inl ⟨rfl, _, .inl (.inl hD4)⟩, _, rfl, l, rfl, ⟨_, .inl (.inl hl4)⟩, fun D2 hD2 => ?_⟩
      refine lc_it (walk_list (K := K) (a := l) (xs := d.evs.map V.str)) (fun i H' => Same H4 H' ∧ ∃ as, H' D2 = some (.lst (as.map V.ref)) ∧ RowsAt H' as (rowsC d.caps (d.evs.take i)) ∧ as.length ≤ i) ⟨same_upd hD2, [], upd_same, .nil, Nat.le_refl _⟩ (fun i H' _ pv => .inl (.inl (pv.1 _ _ hl4))) (fun i x H5 H6 hi pv yv => ?_) (fun H5 pv => ?_)
      · obtain ⟨s5, as, hD5, hR5, hla5⟩ := pv
        obtain ⟨rfl, hx⟩ := yv
        rw [List.length_map] at hi
        rw [List.getElem?_map, List.getElem?_eq_getElem hi] at hx
        cases hx
        have hm5 := s5 _ _ hm4
        refine ⟨rfl, _, rfl, _, rfl, m, _, rfl, .inl ⟨capsV d.caps, .inr d.evs[i], .inl hm5, rfl, rfl⟩, _, rfl, ite2 (fun e1 => ?_) (fun e1 => ?_)⟩
        · have hv := valV_capOf (cs := d.caps) (e := d.evs[i])
          obtain ⟨c, hc⟩ : ∃ c, capOf d.caps d.evs[i] = some c := by
            cases hh : capOf d.caps d.evs[i] with
            | some c => exact ⟨c, rfl⟩
            | none =>
              rw [hv, hh] at e1
              cases e1
          rw [hc] at hv
          refine ⟨_, rfl, _, rfl, _, rfl, m, _, rfl, .inl ⟨capsV d.caps, .inr d.evs[i], .inl hm5, rfl, hv.symm⟩, _, rfl, sz 2, fun T2 nT2 => ⟨sz 4, fun T1 nT1 => ?_⟩⟩
          refine row_step hD2 hD5 hR5 s5 hla5 hi ?_ nT2 nT1
          unfold rowsC
          rw [List.take_add_one, List.getElem?_eq_getElem hi, List.filter_append, List.map_append]
          show _ ++ List.map _ (List.filter _ [d.evs[i]]) = _
          rw [List.filter_cons, if_pos (by rw [hc]; rfl), List.filter_nil, List.map_cons, hc]
          rfl
        · refine ⟨s5, as, hD5, ?_, Nat.le_succ_of_le hla5⟩
          have hz : rowsC d.caps (d.evs.take (i + 1)) = rowsC d.caps (d.evs.take i) := by
            unfold rowsC
            rw [List.take_add_one, List.getElem?_eq_getElem hi, List.filter_append]
            show List.map _ (_ ++ List.filter _ [d.evs[i]]) = _
            rw [List.filter_cons, if_neg, List.filter_nil, List.append_nil]
            intro h
            have hv := valV_capOf (cs := d.caps) (e := d.evs[i])
            obtain ⟨c, hc⟩ := Option.isSome_iff_exists.mp h
            rw [hc] at hv
            exact e1 (by rw [hv]; rfl)
          rw [hz]
          exact hR5
      obtain ⟨s5, as2, hD25, hR25, hla2⟩ := pv
      rw [List.length_map, List.take_length] at hR25
      rw [List.length_map] at hla2
      have hD5 := s5 _ _ hD4
      have hne2 : D ≠ D2 := ne_of_none hD4 hD2
      have hR5 := hR4.same s5
      refine ⟨D, D2, _, _, rfl, rfl, hD5, hD25, ?_, ?_⟩
      · rw [List.length_map, List.length_map]
        exact Nat.le_trans (by omega) (sz 1000)
      have hD6 : (upd H5 D (.lst (as1.map V.ref ++ as2.map V.ref))) D = some (.lst ((as1 ++ as2).map V.ref)) := by
        rw [upd_same, List.map_append]
      have s06 : Same H (upd H5 D (.lst (as1.map V.ref ++ as2.map V.ref))) := same_put nD (Same.trans s04 s5)
      have hR6 : RowsAt (upd H5 D (.lst (as1.map V.ref ++ as2.map V.ref))) (as1 ++ as2) (rowsT d.ties ++ rowsC d.caps d.evs) := (hR5.app hR25).put hD5 fun _ z => nomatch z
      have hl6 : (upd H5 D (.lst (as1.map V.ref ++ as2.map V.ref))) l = some (.lst (d.evs.map V.str)) := by
        rw [upd_ne]
        · exact s5 _ _ hl4
        · exact hlD
      revert hD6 s06 hR6 hl6
      clear hR5 hR25 hD25 hD5 s5 hR4 hD4 hl4 hm4 hD2 s04
      generalize upd H5 D (.lst (as1.map V.ref ++ as2.map V.ref)) = H6
      intro hD6 s06 hR6 hl6
      -- none below nothing
      refine seq_st ?_
      refine ⟨_, rfl, .inl ⟨rfl, _, .inl (.inl hD6)⟩, _, rfl, l, rfl, ⟨_, .inl (.inl hl6)⟩, fun D3 hD3 => ?_⟩
      refine lc_it (walk_list (K := K) (a := l) (xs := d.evs.map V.str)) (fun i H' => Same H6 H' ∧ ∃ as, H' D3 = some (.lst (as.map V.ref)) ∧ RowsAt H' as (rowsN (d.evs.take i)) ∧ as.length ≤ i) ⟨same_upd hD3, [], upd_same, .nil, Nat.le_refl _⟩ (fun i H' _ pv => .inl (.inl (pv.1 _ _ hl6))) (fun i x H7 H8 hi pv yv => ?_) (fun H7 pv => ?_)
      · obtain ⟨s7, as, hD7, hR7, hla7⟩ := pv
        obtain ⟨rfl, hx⟩ := yv
        rw [List.length_map] at hi
        rw [List.getElem?_map, List.getElem?_eq_getElem hi] at hx
        cases hx
        refine ⟨rfl, _, rfl, _, rfl, sz 2, fun T2 nT2 => ⟨sz 4, fun T1 nT1 => ?_⟩⟩
        refine row_step hD3 hD7 hR7 s7 hla7 hi ?_ nT2 nT1
        unfold rowsN
        rw [List.take_add_one, List.getElem?_eq_getElem hi, List.map_append]
        rfl
      obtain ⟨s7, as3, hD37, hR37, hla3⟩ := pv
      rw [List.length_map, List.take_length] at hR37
      rw [List.length_map] at hla3
      have hD7 := s7 _ _ hD6
      refine ⟨D, D3, _, _, rfl, rfl, hD7, hD37, ?_, ?_⟩
      · rw [List.length_map, List.length_map, List.length_append]
        exact Nat.le_trans (by omega) (sz 1000)
      refine ⟨_, rfl, q D (as1 ++ as2 ++ as3) _ (same_put nD (Same.trans s06 s7)) nD (by rw [upd_same, List.map_append (l₁ := as1 ++ as2)]) (((hR6.same s7).app hR37).put hD7 fun _ z => nomatch z)⟩

end
end Pk

set_option Elab.async false
set_option linter.all false
/-! closed sums as plain data: rows put one after another, then one place in the middle after another -/
namespace Pu
open PySem PySem.Spec PyProof.Rows L2
section
variable {β : Type}
def getR : List (Str × β) → Str → Option β
  | [], _ => none
  | c :: r, k => if c.1 = k then some c.2 else getR r k
def putR : List (Str × β) → Str → β → List (Str × β)
  | [], k, v => [(k, v)]
  | c :: r, k, v => if c.1 = k then (k, v) :: r else c :: putR r k v
theorem getR_put (r : List (Str × β)) (k j : Str) (v : β) : getR (putR r k v) j = if j = k then some v else getR r j := by
  induction r with
  | nil =>
    show (if k = j then some v else none) = _
    by_cases e : j = k
    · rw [if_pos e, if_pos e.symm]
    · rw [if_neg e, if_neg (fun z => e z.symm)]; rfl
  | cons c r ih =>
    unfold putR
    by_cases h : c.1 = k
    · rw [if_pos h]
      show (if k = j then some v else getR r j) = _
      by_cases e : j = k
      · rw [if_pos e, if_pos e.symm]
      · rw [if_neg e, if_neg (fun z => e z.symm)]
        show _ = if c.1 = j then some c.2 else getR r j
        rw [if_neg (fun z => e (z.symm.trans h))]
    · rw [if_neg h]
      show (if c.1 = j then some c.2 else getR (putR r k v) j) = _
      rw [ih]
      by_cases e : c.1 = j
      · rw [if_pos e, if_neg (fun z => h (e.trans z))]
        show _ = if c.1 = j then some c.2 else getR r j
        rw [if_pos e]
      · rw [if_neg e]
        by_cases z : j = k
        · rw [if_pos z, if_pos z]
        · rw [if_neg z, if_neg z]
          show _ = if c.1 = j then some c.2 else getR r j
          rw [if_neg e]
theorem getR_mem {r : List (Str × β)} {k : Str} {v : β} (h : getR r k = some v) : (k, v) ∈ r := by
  induction r with
  | nil => cases h
  | cons c r ih =>
    have h : (if c.1 = k then some c.2 else getR r k) = some v := h
    by_cases e : c.1 = k
    · rw [if_pos e] at h
      cases h
      rw [← e]
      exact List.mem_cons_self ..
    · rw [if_neg e] at h
      exact List.mem_cons_of_mem _ (ih h)
theorem getR_none {r : List (Str × β)} {k : Str} (h : k ∉ r.map (·.1)) : getR r k = none := by
  induction r with
  | nil => rfl
  | cons c r ih =>
    rw [List.map_cons, List.mem_cons, not_or] at h
    show (if c.1 = k then some c.2 else getR r k) = none
    rw [if_neg (fun z => h.1 z.symm)]
    exact ih h.2
theorem getR_nd {r : List (Str × β)} {k : Str} {v : β} (nd : (r.map (·.1)).Nodup) (h : (k, v) ∈ r) : getR r k = some v := by
  induction r with
  | nil => cases h
  | cons c r ih =>
    rw [List.map_cons, List.nodup_cons] at nd
    show (if c.1 = k then some c.2 else getR r k) = some v
    rcases List.mem_cons.mp h with e | e
    · rw [← e, if_pos rfl]
    · rw [if_neg (fun z : c.1 = k => nd.1 (z ▸ List.mem_map_of_mem (f := (·.1)) e))]
      exact ih nd.2 e
theorem putR_keys (r : List (Str × β)) (k : Str) (v : β) : ∀ j, j ∈ (putR r k v).map (·.1) ↔ j = k ∨ j ∈ r.map (·.1) := by
  induction r with
  | nil => intro j; simp [putR]
  | cons c r ih =>
    intro j
    unfold putR
    by_cases h : c.1 = k
    · rw [if_pos h]; simp [h]
    · rw [if_neg h, List.map_cons, List.mem_cons, ih, List.map_cons, List.mem_cons]
      constructor
      · rintro (e | e | e)
        · exact .inr (.inl e)
        · exact .inl e
        · exact .inr (.inr e)
      · rintro (e | e | e)
        · exact .inr (.inl e)
        · exact .inl e
        · exact .inr (.inr e)
theorem putR_nd {r : List (Str × β)} (k : Str) (v : β) (nd : (r.map (·.1)).Nodup) : ((putR r k v).map (·.1)).Nodup := by
  induction r with
  | nil => simp [putR]
  | cons c r ih =>
    rw [List.map_cons, List.nodup_cons] at nd
    unfold putR
    by_cases h : c.1 = k
    · rw [if_pos h, List.map_cons, List.nodup_cons]
      exact ⟨h ▸ nd.1, nd.2⟩
    · rw [if_neg h, List.map_cons, List.nodup_cons]
      refine ⟨fun z => ?_, ih nd.2⟩
      rcases (putR_keys r k v c.1).mp z with e | e
      · exact h e
      · exact nd.1 e
end
/-- a row of sums and a row of ways -/
abbrev SR := List (Str × Int)
abbrev WR := List (Str × (Str ⊕ Addr))
def better : Option Int → Int → Bool
  | none, _ => true
  | some u, v => decide (v < u)
/-- one row of the plan -/
def rowR (l : Str) (a : Int) (t : Addr) (k : SR × WR) : SR × WR := if better (getR k.1 l) a then (putR k.1 l a, putR k.2 l (.inr t)) else k
/-- one sum beyond -/
def oneR (m : Str) (a : Int) (k : SR × WR) (c : Str × Int) : SR × WR := if better (getR k.1 c.1) (a + c.2) then (putR k.1 c.1 (a + c.2), putR k.2 c.1 (.inl m)) else k
def relaxR (m : Str) (a : Int) (bey : SR) (k : SR × WR) : SR × WR := bey.foldl (oneR m a) k
def phaseR (m : Str) (bey : SR) (k : SR × WR) : SR × WR := match getR k.1 m with
  | none => k
  | some a => relaxR m a bey k
def setR (Z : Str → SR × WR) (f : Str) (k : SR × WR) : Str → SR × WR := fun g => if g = f then k else Z g
/-- the middle m for the places of ps -/
def phaseZ (m : Str) (ps : List Str) (Z : Str → SR × WR) : Str → SR × WR := fun f => if f ∈ ps ∧ f ≠ m then phaseR m (Z m).1 (Z f) else Z f
def closeZ (ps : List Str) (n : Nat) (Z : Str → SR × WR) : Str → SR × WR := (ps.take n).foldl (fun Z m => phaseZ m ps Z) Z
def beginZ : Str → SR × WR := fun f => ([(f, 0)], [])
abbrev TRow := Str × Str × Int × Addr
def rowZ (Z : Str → SR × WR) (r : TRow) : Str → SR × WR := setR Z r.1 (rowR r.2.1 r.2.2.1 r.2.2.2 (Z r.1))
def rowsZ (rs : List TRow) : Str → SR × WR := rs.foldl rowZ beginZ
/-! lookups -/
abbrev sOf (Z : Str → SR × WR) (f l : Str) : Option Int := getR (Z f).1 l
abbrev wOf (Z : Str → SR × WR) (f l : Str) : Option (Str ⊕ Addr) := getR (Z f).2 l
theorem relax_get (m : Str) (a : Int) : ∀ (bey : SR) (k : SR × WR) (_ : (bey.map (·.1)).Nodup) (l : Str),
    (getR bey l = none ∧ getR (relaxR m a bey k).1 l = getR k.1 l ∧ getR (relaxR m a bey k).2 l = getR k.2 l) ∨
    ∃ c, getR bey l = some c ∧ ((better (getR k.1 l) (a + c) = true ∧ getR (relaxR m a bey k).1 l = some (a + c) ∧ getR (relaxR m a bey k).2 l = some (.inl m)) ∨
      (better (getR k.1 l) (a + c) = false ∧ getR (relaxR m a bey k).1 l = getR k.1 l ∧ getR (relaxR m a bey k).2 l = getR k.2 l))
  | [], k, _, l => .inl ⟨rfl, rfl, rfl⟩
  | c :: r, k, nd, l => by
    rw [List.map_cons, List.nodup_cons] at nd
    have ih := relax_get m a r (oneR m a k c) nd.2 l
    show (getR (c :: r) l = none ∧ getR (relaxR m a r (oneR m a k c)).1 l = _ ∧ getR (relaxR m a r (oneR m a k c)).2 l = _) ∨ ∃ v, getR (c :: r) l = some v ∧ ((_ ∧ getR (relaxR m a r (oneR m a k c)).1 l = _ ∧ getR (relaxR m a r (oneR m a k c)).2 l = _) ∨ (_ ∧ getR (relaxR m a r (oneR m a k c)).1 l = _ ∧ getR (relaxR m a r (oneR m a k c)).2 l = _))
    by_cases e : c.1 = l
    · have g : getR (c :: r) l = some c.2 := if_pos e
      have n : getR r l = none := getR_none (e ▸ nd.1)
      rcases ih with ⟨_, h1, h2⟩ | ⟨v, h, _⟩
      · refine .inr ⟨c.2, g, ?_⟩
        cases b : better (getR k.1 l) (a + c.2) with
        | true =>
          refine .inl ⟨rfl, ?_, ?_⟩
          · rw [h1]
            unfold oneR
            rw [e, if_pos b]
            exact (getR_put ..).trans (if_pos rfl)
          · rw [h2]
            unfold oneR
            rw [e, if_pos b]
            exact (getR_put ..).trans (if_pos rfl)
        | false =>
          have hb : ¬ better (getR k.1 l) (a + c.2) = true := by rw [b]; decide
          refine .inr ⟨rfl, ?_, ?_⟩
          · rw [h1]
            unfold oneR
            rw [e, if_neg hb]
          · rw [h2]
            unfold oneR
            rw [e, if_neg hb]
      · rw [n] at h
        cases h
    · have g : getR (c :: r) l = getR r l := if_neg e
      have o1 : getR (oneR m a k c).1 l = getR k.1 l := by
        unfold oneR
        by_cases b : better (getR k.1 c.1) (a + c.2) = true
        · rw [if_pos b]
          exact (getR_put ..).trans (if_neg (fun z => e z.symm))
        · rw [if_neg b]
      have o2 : getR (oneR m a k c).2 l = getR k.2 l := by
        unfold oneR
        by_cases b : better (getR k.1 c.1) (a + c.2) = true
        · rw [if_pos b]
          exact (getR_put ..).trans (if_neg (fun z => e z.symm))
        · rw [if_neg b]
      rw [g, ← o1, ← o2]
      exact ih
/-- what stands in a row: keys of ps, each once -/
structure RowOk (ps : List Str) (k : SR × WR) : Prop where
  s1 : (k.1.map (·.1)).Nodup
  s2 : ∀ j ∈ k.1.map (·.1), j ∈ ps
  w1 : (k.2.map (·.1)).Nodup
  w2 : ∀ j ∈ k.2.map (·.1), j ∈ ps
theorem RowOk.put {ps : List Str} {k : SR × WR} (h : RowOk ps k) {l : Str} (hl : l ∈ ps) (v : Int) (w : Str ⊕ Addr) : RowOk ps (putR k.1 l v, putR k.2 l w) :=
  ⟨putR_nd _ _ h.s1, fun j hj => ((putR_keys _ _ _ _).mp hj).elim (fun e => e ▸ hl) (h.s2 j), putR_nd _ _ h.w1, fun j hj => ((putR_keys _ _ _ _).mp hj).elim (fun e => e ▸ hl) (h.w2 j)⟩
theorem RowOk.one {ps : List Str} {k : SR × WR} (h : RowOk ps k) {m : Str} {a : Int} {c : Str × Int} (hl : c.1 ∈ ps) : RowOk ps (oneR m a k c) := by
  unfold oneR
  split
  · exact h.put hl _ _
  · exact h
theorem RowOk.relax {ps : List Str} {m : Str} {a : Int} : ∀ {bey : SR} {k : SR × WR}, RowOk ps k → (∀ j ∈ bey.map (·.1), j ∈ ps) → RowOk ps (relaxR m a bey k)
  | [], _, h, _ => h
  | c :: r, k, h, hb => RowOk.relax (bey := r) (k := oneR m a k c) (h.one (hb _ (List.mem_cons_self ..))) (fun j hj => hb j (List.mem_cons_of_mem _ hj))
/-! ### the invariant -/
def wi (P : List Str) : Option (Str ⊕ Addr) → Nat
  | some (.inl k) => P.idxOf k + 1
  | _ => 0
structure SInv (ps P : List Str) (Z : Str → SR × WR) : Prop where
  ok : ∀ f ∈ ps, RowOk ps (Z f)
  nn : ∀ f ∈ ps, ∀ l v, sOf Z f l = some v → 0 ≤ v
  dg : ∀ f ∈ ps, sOf Z f f = some 0
  ws : ∀ f ∈ ps, ∀ l w, wOf Z f l = some w → (sOf Z f l).isSome
  tri : ∀ f ∈ ps, ∀ k ∈ P, ∀ l a b, sOf Z f k = some a → sOf Z k l = some b → ∃ v, sOf Z f l = some v ∧ v ≤ a + b
  mid : ∀ f ∈ ps, ∀ l k, wOf Z f l = some (.inl k) → k ∈ P ∧ ∃ a b, sOf Z f k = some a ∧ sOf Z k l = some b ∧ sOf Z f l = some (a + b) ∧ wi P (wOf Z f k) ≤ P.idxOf k ∧ wi P (wOf Z k l) ≤ P.idxOf k
theorem wi_app {P : List Str} {m : Str} {o : Option (Str ⊕ Addr)} (h : ∀ k, o = some (.inl k) → k ∈ P) : wi (P ++ [m]) o = wi P o := by
  unfold wi
  split
  · rename_i k
    rw [List.idxOf_append, if_pos (h k rfl)]
  · rfl
theorem wi_le {P : List Str} {o : Option (Str ⊕ Addr)} (h : ∀ k, o = some (.inl k) → k ∈ P) : wi P o ≤ P.length := by
  unfold wi
  split
  · rename_i k
    exact List.idxOf_lt_length_iff.mpr (h k rfl)
  · exact Nat.zero_le _
/-- what a place in the middle makes of one pair -/
theorem phase_get {ps P : List Str} {Z : Str → SR × WR} (I : SInv ps P Z) {m f : Str} (hm : m ∈ ps) (hf : f ∈ ps) (l : Str) :
    (∃ a b, sOf Z f m = some a ∧ sOf Z m l = some b ∧ better (sOf Z f l) (a + b) = true ∧ sOf (phaseZ m ps Z) f l = some (a + b) ∧ wOf (phaseZ m ps Z) f l = some (.inl m)) ∨
    ((∀ a b, sOf Z f m = some a → sOf Z m l = some b → better (sOf Z f l) (a + b) = false) ∧ sOf (phaseZ m ps Z) f l = sOf Z f l ∧ wOf (phaseZ m ps Z) f l = wOf Z f l) := by
  unfold phaseZ sOf wOf
  dsimp only
  by_cases e : f = m
  · rw [if_neg (fun z => z.2 e)]
    refine .inr ⟨fun a b ha hb => ?_, rfl, rfl⟩
    rw [e] at ha ⊢
    have := I.dg m hm
    unfold sOf at this
    rw [this] at ha
    cases ha
    rw [hb]
    show decide (0 + b < b) = false
    exact decide_eq_false (by omega)
  · rw [if_pos ⟨hf, e⟩]
    unfold phaseR
    cases ha : getR (Z f).1 m with
    | none => exact .inr ⟨fun a b h => (nomatch h), rfl, rfl⟩
    | some a =>
      show (∃ a' b, some a = some a' ∧ _ ∧ _ ∧ getR (relaxR m a (Z m).1 (Z f)).1 l = _ ∧ getR (relaxR m a (Z m).1 (Z f)).2 l = _) ∨ (_ ∧ getR (relaxR m a (Z m).1 (Z f)).1 l = _ ∧ getR (relaxR m a (Z m).1 (Z f)).2 l = _)
      rcases relax_get m a (Z m).1 (Z f) (I.ok m hm).s1 l with ⟨h0, h1, h2⟩ | ⟨c, hc, ⟨h0, h1, h2⟩ | ⟨h0, h1, h2⟩⟩
      · refine .inr ⟨fun a' b _ hb => ?_, h1, h2⟩
        rw [h0] at hb
        cases hb
      · exact .inl ⟨a, c, rfl, hc, h0, h1, h2⟩
      · refine .inr ⟨fun a' b ha' hb => ?_, h1, h2⟩
        cases ha'
        rw [hc] at hb
        cases hb
        exact h0
theorem better_none {o : Option Int} {v : Int} (h : better o v = false) : ∃ u, o = some u ∧ u ≤ v := by
  cases o with
  | none => cases h
  | some u =>
    have h : decide (v < u) = false := h
    exact ⟨u, rfl, by have := of_decide_eq_false h; omega⟩
theorem better_some {u v : Int} (h : better (some u) v = true) : v < u := of_decide_eq_true h
/-- after the middle m a sum is at most what it was, and at most what leads over m -/
theorem phase_le {ps P : List Str} {Z : Str → SR × WR} (I : SInv ps P Z) {m f : Str} (hm : m ∈ ps) (hf : f ∈ ps) {l : Str} : (∀ u, sOf Z f l = some u → ∃ v, sOf (phaseZ m ps Z) f l = some v ∧ v ≤ u) ∧ (∀ a b, sOf Z f m = some a → sOf Z m l = some b → ∃ v, sOf (phaseZ m ps Z) f l = some v ∧ v ≤ a + b) := by
  rcases phase_get I hm hf l with ⟨a, b, ha, hb, h0, h1, _⟩ | ⟨h0, h1, _⟩
  · refine ⟨fun u hu => ⟨_, h1, ?_⟩, fun a' b' ha' hb' => ⟨_, h1, ?_⟩⟩
    · rw [hu] at h0
      have := better_some h0
      omega
    · rw [ha] at ha'
      rw [hb] at hb'
      cases ha'
      cases hb'
      omega
  · refine ⟨fun u hu => ⟨u, h1.trans hu, Int.le_refl _⟩, fun a b ha hb => ?_⟩
    obtain ⟨u, hu, hl⟩ := better_none (h0 a b ha hb)
    exact ⟨u, h1.trans hu, hl⟩
/-- a sum after the middle m: as before, or over m -/
theorem phase_or {ps P : List Str} {Z : Str → SR × WR} (I : SInv ps P Z) {m f : Str} (hm : m ∈ ps) (hf : f ∈ ps) {l : Str} {v : Int} (h : sOf (phaseZ m ps Z) f l = some v) : sOf Z f l = some v ∨ ∃ a b, sOf Z f m = some a ∧ sOf Z m l = some b ∧ v = a + b := by
  rcases phase_get I hm hf l with ⟨a, b, ha, hb, h0, h1, _⟩ | ⟨h0, h1, _⟩
  · rw [h1] at h
    cases h
    exact .inr ⟨a, b, ha, hb, rfl⟩
  · rw [h1] at h
    exact .inl h
theorem mem_ps {ps P : List Str} {Z : Str → SR × WR} (I : SInv ps P Z) {f l : Str} {v : Int} (hf : f ∈ ps) (h : sOf Z f l = some v) : l ∈ ps :=
  (I.ok f hf).s2 l (List.mem_map_of_mem (f := (·.1)) (getR_mem h))
theorem SInv.phase {ps P : List Str} {Z : Str → SR × WR} (I : SInv ps P Z) {m : Str} (hm : m ∈ ps) (hn : m ∉ P) (hP : ∀ k ∈ P, k ∈ ps) : SInv ps (P ++ [m]) (phaseZ m ps Z) := by
  have fm : ∀ {f}, f ∈ ps → sOf (phaseZ m ps Z) f m = sOf Z f m ∧ wOf (phaseZ m ps Z) f m = wOf Z f m := by
    intro f hf
    rcases phase_get I hm hf m with ⟨a, b, ha, hb, h0, h1, _⟩ | ⟨h0, h1, h2⟩
    · rw [I.dg m hm] at hb
      cases hb
      rw [ha] at h0
      have := better_some h0
      omega
    · exact ⟨h1, h2⟩
  have mm : ∀ {l}, sOf (phaseZ m ps Z) m l = sOf Z m l ∧ wOf (phaseZ m ps Z) m l = wOf Z m l := by
    intro l
    unfold phaseZ sOf wOf
    dsimp only
    rw [if_neg (fun z => z.2 rfl)]
    exact ⟨rfl, rfl⟩
  have inP : ∀ {f l k}, f ∈ ps → wOf Z f l = some (.inl k) → k ∈ P := fun hf h => (I.mid _ hf _ _ h).1
  refine ⟨fun f hf => ?_, fun f hf l v h => ?_, fun f hf => ?_, fun f hf l w h => ?_, fun f hf k hk l a b ha hb => ?_, fun f hf l k h => ?_⟩
  · unfold phaseZ
    split
    · unfold phaseR
      split
      · exact I.ok f hf
      · exact (I.ok f hf).relax (I.ok m hm).s2
    · exact I.ok f hf
  · rcases phase_or I hm hf h with h | ⟨a, b, ha, hb, rfl⟩
    · exact I.nn f hf l v h
    · have := I.nn f hf _ _ ha
      have := I.nn m hm _ _ hb
      omega
  · rcases phase_get I hm hf f with ⟨a, b, ha, hb, h0, h1, _⟩ | ⟨h0, h1, h2⟩
    · rw [I.dg f hf] at h0
      have := better_some h0
      have := I.nn f hf _ _ ha
      have := I.nn m hm _ _ hb
      omega
    · exact h1.trans (I.dg f hf)
  · rcases phase_get I hm hf l with ⟨a, b, ha, hb, h0, h1, h2⟩ | ⟨h0, h1, h2⟩
    · rw [h1]; rfl
    · rw [h1]
      rw [h2] at h
      exact I.ws f hf l w h
  · rcases List.mem_append.mp hk with hk | hk
    · have hkp := hP k hk
      rcases phase_or I hm hf ha with ha | ⟨a1, a2, h1, h2, rfl⟩ <;> rcases phase_or I hm hkp hb with hb | ⟨b1, b2, h3, h4, rfl⟩
      · obtain ⟨v, hv, hl⟩ := I.tri f hf k hk l a b ha hb
        obtain ⟨u, hu, hl2⟩ := (phase_le I hm hf).1 v hv
        exact ⟨u, hu, by omega⟩
      · obtain ⟨v, hv, hl⟩ := I.tri f hf k hk m a b1 ha h3
        obtain ⟨u, hu, hl2⟩ := (phase_le I hm hf).2 v b2 hv h4
        exact ⟨u, hu, by omega⟩
      · obtain ⟨v, hv, hl⟩ := I.tri m hm k hk l a2 b h2 hb
        obtain ⟨u, hu, hl2⟩ := (phase_le I hm hf).2 a1 v h1 hv
        exact ⟨u, hu, by omega⟩
      · obtain ⟨u, hu, hl2⟩ := (phase_le I hm hf).2 a1 b2 h1 h4
        have := I.nn m hm _ _ h2
        have := I.nn k hkp _ _ h3
        exact ⟨u, hu, by omega⟩
    · rw [List.mem_singleton.mp hk] at ha hb
      rw [(fm hf).1] at ha
      rw [mm.1] at hb
      exact (phase_le I hm hf).2 a b ha hb
  · rcases phase_get I hm hf l with ⟨a, b, ha, hb, h0, h1, h2⟩ | ⟨h0, h1, h2⟩
    · rw [h2] at h
      cases h
      refine ⟨List.mem_append_right _ (List.mem_singleton.mpr rfl), a, b, (fm hf).1.trans ha, mm.1.trans hb, h1, ?_, ?_⟩
      · rw [(fm hf).2, wi_app fun k hk => inP hf hk, List.idxOf_append, if_neg hn]
        exact Nat.le_trans (wi_le fun k hk => inP hf hk) (Nat.le_add_left ..)
      · rw [mm.2, wi_app fun k hk => inP hm hk, List.idxOf_append, if_neg hn]
        exact Nat.le_trans (wi_le fun k hk => inP hm hk) (Nat.le_add_left ..)
    · rw [h2] at h
      obtain ⟨hk, a, b, ha, hb, hs, i1, i2⟩ := I.mid f hf l k h
      have hkp := hP k hk
      -- neither part has become less: the whole would have
      have g1 : sOf (phaseZ m ps Z) f k = sOf Z f k ∧ wOf (phaseZ m ps Z) f k = wOf Z f k := by
        rcases phase_get I hm hf k with ⟨a1, a2, q1, q2, q0, _⟩ | ⟨_, q1, q2⟩
        · rw [ha] at q0
          have q0 := better_some q0
          obtain ⟨v, hv, hl⟩ := I.tri m hm k hk l a2 b q2 hb
          have := h0 a1 v q1 hv
          rw [hs] at this
          obtain ⟨u, hu, hul⟩ := better_none this
          cases hu
          omega
        · exact ⟨q1, q2⟩
      have g2 : sOf (phaseZ m ps Z) k l = sOf Z k l ∧ wOf (phaseZ m ps Z) k l = wOf Z k l := by
        rcases phase_get I hm hkp l with ⟨b1, b2, q1, q2, q0, _⟩ | ⟨_, q1, q2⟩
        · rw [hb] at q0
          have q0 := better_some q0
          obtain ⟨v, hv, hl⟩ := I.tri f hf k hk m a b1 ha q1
          have := h0 v b2 hv q2
          rw [hs] at this
          obtain ⟨u, hu, hul⟩ := better_none this
          cases hu
          omega
        · exact ⟨q1, q2⟩
      refine ⟨List.mem_append_left _ hk, a, b, g1.1.trans ha, g2.1.trans hb, h1.trans hs, ?_, ?_⟩
      · rw [g1.2, wi_app fun k hk => inP hf hk, List.idxOf_append, if_pos hk]
        exact i1
      · rw [g2.2, wi_app fun k hk => inP hkp hk, List.idxOf_append, if_pos hk]
        exact i2
theorem SInv.row {ps : List Str} {Z : Str → SR × WR} (I : SInv ps [] Z) {r : TRow} (hl : r.2.1 ∈ ps) (hf0 : r.1 ∈ ps) (ha : 0 ≤ r.2.2.1) : SInv ps [] (rowZ Z r) := by
  obtain ⟨f0, l0, a0, t0⟩ := r
  have hl : l0 ∈ ps := hl
  have ha : 0 ≤ a0 := ha
  have key : ∀ f l, (f = f0 ∧ l = l0 ∧ better (sOf Z f l) a0 = true ∧ sOf (rowZ Z (f0, l0, a0, t0)) f l = some a0 ∧ wOf (rowZ Z (f0, l0, a0, t0)) f l = some (.inr t0)) ∨ (sOf (rowZ Z (f0, l0, a0, t0)) f l = sOf Z f l ∧ wOf (rowZ Z (f0, l0, a0, t0)) f l = wOf Z f l) := by
    intro f l
    unfold rowZ setR sOf wOf
    show (f = f0 ∧ l = l0 ∧ _ ∧ getR (if f = f0 then rowR l0 a0 t0 (Z f0) else Z f).1 l = _ ∧ getR (if f = f0 then rowR l0 a0 t0 (Z f0) else Z f).2 l = _) ∨ (getR (if f = f0 then rowR l0 a0 t0 (Z f0) else Z f).1 l = _ ∧ getR (if f = f0 then rowR l0 a0 t0 (Z f0) else Z f).2 l = _)
    by_cases e : f = f0
    · rw [if_pos e, e]
      unfold rowR
      by_cases b : better (getR (Z f0).1 l0) a0 = true
      · rw [if_pos b]
        by_cases z : l = l0
        · rw [z]
          exact .inl ⟨rfl, rfl, b, (getR_put ..).trans (if_pos rfl), (getR_put ..).trans (if_pos rfl)⟩
        · exact .inr ⟨(getR_put ..).trans (if_neg z), (getR_put ..).trans (if_neg z)⟩
      · rw [if_neg b]
        exact .inr ⟨rfl, rfl⟩
    · rw [if_neg e]
      exact .inr ⟨rfl, rfl⟩
  refine ⟨fun f hf => ?_, fun f hf l v h => ?_, fun f hf => ?_, fun f hf l w h => ?_, fun f hf k hk => absurd hk List.not_mem_nil, fun f hf l k h => ?_⟩
  · unfold rowZ setR
    show RowOk ps (if f = f0 then rowR l0 a0 t0 (Z f0) else Z f)
    split
    · unfold rowR
      split
      · exact (I.ok f0 hf0).put hl _ _
      · exact I.ok f0 hf0
    · exact I.ok f hf
  · rcases key f l with ⟨_, _, _, h1, _⟩ | ⟨h1, _⟩
    · rw [h1] at h
      cases h
      exact ha
    · rw [h1] at h
      exact I.nn f hf l v h
  · rcases key f f with ⟨_, _, b, h1, _⟩ | ⟨h1, _⟩
    · rw [I.dg f hf] at b
      have := better_some b
      omega
    · exact h1.trans (I.dg f hf)
  · rcases key f l with ⟨_, _, _, h1, _⟩ | ⟨h1, h2⟩
    · rw [h1]; rfl
    · rw [h1]
      rw [h2] at h
      exact I.ws f hf l w h
  · rcases key f l with ⟨_, _, _, _, h2⟩ | ⟨h1, h2⟩
    · rw [h2] at h
      cases h
    · rw [h2] at h
      exact absurd (I.mid f hf l k h).1 List.not_mem_nil
theorem begin_inv (ps : List Str) : SInv ps [] beginZ := by
  have e1 : ∀ f l, sOf beginZ f l = if f = l then some 0 else none := fun f l => rfl
  refine ⟨fun f hf => ⟨by simp [beginZ], fun j hj => ?_, List.nodup_nil, fun j hj => absurd hj List.not_mem_nil⟩, fun f hf l v h => ?_, fun f hf => ?_, fun f hf l w h => (nomatch h), fun f hf k hk => absurd hk List.not_mem_nil, fun f hf l k h => (nomatch h)⟩
  · have hj : j ∈ [f] := hj
    rw [List.mem_singleton.mp hj]
    exact hf
  · rw [e1] at h
    split at h
    · cases h; decide
    · cases h
  · rw [e1, if_pos rfl]
theorem rows_inv {ps : List Str} : ∀ {rs : List TRow} {Z : Str → SR × WR}, SInv ps [] Z → (∀ r ∈ rs, r.1 ∈ ps ∧ r.2.1 ∈ ps ∧ 0 ≤ r.2.2.1) → SInv ps [] (rs.foldl rowZ Z)
  | [], _, I, _ => I
  | r :: rs, _, I, h => rows_inv (rs := rs) (I.row (h r (List.mem_cons_self ..)).2.1 (h r (List.mem_cons_self ..)).1 (h r (List.mem_cons_self ..)).2.2) (fun x hx => h x (List.mem_cons_of_mem _ hx))
theorem close_step {ps : List Str} {n : Nat} {Z : Str → SR × WR} {m : Str} (h : ps[n]? = some m) : closeZ ps (n + 1) Z = phaseZ m ps (closeZ ps n Z) := by
  unfold closeZ
  rw [List.take_add_one, h, List.foldl_append]
  rfl
theorem close_inv {ps : List Str} (nd : ps.Nodup) {Z : Str → SR × WR} (I : SInv ps [] Z) : ∀ n, n ≤ ps.length → SInv ps (ps.take n) (closeZ ps n Z)
  | 0, _ => I
  | n + 1, h => by
    have hn : n < ps.length := h
    have e : ps[n]? = some ps[n] := List.getElem?_eq_getElem hn
    rw [close_step e, List.take_add_one, e]
    refine (close_inv nd I n (Nat.le_of_lt hn)).phase (List.getElem_mem hn) (fun z => ?_) (fun k hk => List.mem_of_mem_take hk)
    obtain ⟨j, hj, e⟩ := List.getElem_of_mem z
    rw [List.getElem_take] at e
    rw [List.length_take] at hj
    have := (List.getElem_inj (h₀ := by omega) (h₁ := hn) nd).mp e
    omega
end Pu

set_option Elab.async false
set_option linter.all false
set_option maxRecDepth 100000
/-! closed sums on the heap: a dict of dicts of sums, a dict of dicts of ways -/
namespace Pu
open PySem PySem.Spec PyProof.Rows L2
section
variable {β : Type}
def kvR (φ : β → V) (r : List (Str × β)) : List (Key × V) := r.map fun c => (.inr c.1, φ c.2)
theorem valV_kvR (φ : β → V) (r : List (Str × β)) (k : Str) : valV (kvR φ r) (.inr k) = (getR r k).map φ := by
  induction r with
  | nil => rfl
  | cons c r ih =>
    show valV ((.inr c.1, φ c.2) :: kvR φ r) (.inr k) = Option.map φ (if c.1 = k then some c.2 else getR r k)
    by_cases e : c.1 = k
    · rw [if_pos e, valV_pos (show (Sum.inr c.1 : Key) = .inr k by rw [e])]
      rfl
    · rw [if_neg e, valV_neg (fun z => e (Sum.inr.inj z))]
      exact ih
theorem putK_kvR (φ : β → V) {r : List (Str × β)} {k : Str} {v : β} (nd : (r.map (·.1)).Nodup) : putK (kvR φ r) (.inr k) (φ v) = kvR φ (putR r k v) := by
  induction r with
  | nil => rfl
  | cons c r ih =>
    rw [List.map_cons, List.nodup_cons] at nd
    have ih := ih nd.2
    unfold putK at ih ⊢
    show (if (decide ((Sum.inr c.1 : Key) = .inr k) || (kvR φ r).any fun kv => decide (kv.1 = .inr k)) = true then _ else _) = _
    by_cases e : c.1 = k
    · rw [decide_eq_true (show (Sum.inr c.1 : Key) = .inr k by rw [e]), Bool.true_or, if_pos rfl]
      show (if (Sum.inr c.1 : Key) = .inr k then (Sum.inr c.1, φ v) else (Sum.inr c.1, φ c.2)) :: List.map _ (kvR φ r) = kvR φ (if c.1 = k then (k, v) :: r else c :: putR r k v)
      rw [if_pos (show (Sum.inr c.1 : Key) = .inr k by rw [e]), if_pos e]
      show _ = ((Sum.inr k : Key), φ v) :: kvR φ r
      rw [e]
      congr 1
      refine (List.map_congr_left fun p hp => ?_).trans (List.map_id _)
      obtain ⟨q, hq, rfl⟩ := List.mem_map.mp hp
      refine if_neg fun z => nd.1 ?_
      have z : q.1 = k := Sum.inr.inj z
      rw [e, ← z]
      exact List.mem_map_of_mem (f := (·.1)) hq
    · rw [decide_eq_false (fun z : (Sum.inr c.1 : Key) = .inr k => e (Sum.inr.inj z)), Bool.false_or]
      show _ = kvR φ (if c.1 = k then (k, v) :: r else c :: putR r k v)
      rw [if_neg e]
      show _ = ((Sum.inr c.1 : Key), φ c.2) :: kvR φ (putR r k v)
      rw [← ih]
      by_cases a : ((kvR φ r).any fun kv => decide (kv.1 = .inr k)) = true
      · rw [if_pos a, if_pos a]
        show (if (Sum.inr c.1 : Key) = .inr k then (Sum.inr c.1, φ v) else (Sum.inr c.1, φ c.2)) :: List.map _ (kvR φ r) = _
        rw [if_neg (fun z : (Sum.inr c.1 : Key) = .inr k => e (Sum.inr.inj z))]
      · rw [if_neg a, if_neg a]
        rfl
theorem kvR_len (φ : β → V) (r : List (Str × β)) : (kvR φ r).length = r.length := List.length_map ..
end
def wayV : Str ⊕ Addr → V
  | .inl m => .str m
  | .inr t => .ref t
def outV (ps : List Str) (sa : Str → Addr) : List (Key × V) := ps.map fun f => (.inr f, .ref (sa f))
theorem outV_get {ps : List Str} {sa : Str → Addr} {f : Str} (h : f ∈ ps) : valV (outV ps sa) (.inr f) = some (.ref (sa f)) := by
  induction ps with
  | nil => cases h
  | cons p r ih =>
    show valV ((.inr p, .ref (sa p)) :: outV r sa) (.inr f) = _
    by_cases e : p = f
    · rw [valV_pos (show (Sum.inr p : Key) = .inr f by rw [e]), e]
    · rw [valV_neg (fun z => e (Sum.inr.inj z))]
      refine ih ?_
      rcases List.mem_cons.mp h with h | h
      · exact absurd h.symm e
      · exact h
theorem outV_none {ps : List Str} {sa : Str → Addr} {f : Str} (h : f ∉ ps) : valV (outV ps sa) (.inr f) = none := by
  induction ps with
  | nil => rfl
  | cons p r ih =>
    rw [List.mem_cons, not_or] at h
    show valV ((.inr p, .ref (sa p)) :: outV r sa) (.inr f) = _
    rw [valV_neg (fun z => h.1 (Sum.inr.inj z).symm)]
    exact ih h.2
/-- a dict of dicts on its way -/
def OutAt (H0 : Hp) (D : Addr) (ps : List Str) (o : Str → HO) (i : Nat) (H' : Hp) : Prop := Same H0 H' ∧ ∃ sa : Str → Addr, H' D = some (.dK (outV (ps.take i) sa)) ∧ (∀ f ∈ ps.take i, H' (sa f) = some (o f) ∧ H0 (sa f) = none ∧ sa f ≠ D) ∧ (∀ f ∈ ps.take i, ∀ g ∈ ps.take i, sa f = sa g → f = g)
theorem OutAt.begin {H0 : Hp} {D : Addr} {ps : List Str} {o : Str → HO} (h : H0 D = none) : OutAt H0 D ps o 0 (upd H0 D (.dK [])) :=
  ⟨same_upd h, fun _ => D, upd_same, fun _ h => absurd h List.not_mem_nil, fun _ h => absurd h List.not_mem_nil⟩
theorem OutAt.step {H0 H1 H2 : Hp} {D p : Addr} {ps : List Str} {o : Str → HO} {i : Nat} {f : Str} (h : OutAt H0 D ps o i H1) (hD : H0 D = none) (nd : ps.Nodup) (hf : ps[i]? = some f) (hp : H1 p = none) (s : Same H1 H2) (h2 : H2 p = some (o f)) :
    ∃ kvs, H2 D = some (.dK kvs) ∧ kvs.length ≤ i ∧ OutAt H0 D ps o (i + 1) (upd H2 D (.dK (putK kvs (.inr f) (.ref p)))) := by
  obtain ⟨s0, sa, hd, hr, hi⟩ := h
  have hlt : i < ps.length := (List.getElem?_eq_some_iff.mp hf).1
  have hn : f ∉ ps.take i := fun z => by
    obtain ⟨j, hj, e⟩ := List.getElem_of_mem z
    rw [List.getElem_take] at e
    rw [List.length_take] at hj
    have e2 := (List.getElem?_eq_some_iff.mp hf).2
    have := (List.getElem_inj (h₀ := by omega) (h₁ := hlt) nd).mp (e.trans e2.symm)
    omega
  have ht : ps.take (i + 1) = ps.take i ++ [f] := by rw [List.take_add_one, hf]; rfl
  have hpD : p ≠ D := fun e => by rw [e, hd] at hp; cases hp
  refine ⟨_, s _ _ hd, ?_, ?_⟩
  · unfold outV
    rw [List.length_map, List.length_take]
    exact Nat.min_le_left ..
  refine ⟨fun a u hu => ?_, fun g => if g = f then p else sa g, ?_, fun g hg => ?_, fun g hg k hk e => ?_⟩
  · rw [upd_ne (ne_of_none hu hD)]
    exact s _ _ (s0 _ _ hu)
  · rw [upd_same, putK_new _ (outV_none hn), ht]
    unfold outV
    rw [List.map_append]
    have e1 : (ps.take i).map (fun g => ((Sum.inr g : Key), V.ref (sa g))) = (ps.take i).map (fun g => ((Sum.inr g : Key), V.ref (if g = f then p else sa g))) := List.map_congr_left fun g hg => by
      rw [if_neg (fun z : g = f => hn (z ▸ hg))]
    rw [e1, List.map_cons, List.map_nil]
    dsimp only
    rw [if_pos rfl]
  · dsimp only
    by_cases e : g = f
    · rw [if_pos e, upd_ne hpD, e]
      refine ⟨h2, ?_, hpD⟩
      cases q : H0 p with
      | none => rfl
      | some u =>
        rw [s0 _ _ q] at hp
        cases hp
    · rw [if_neg e]
      rw [ht] at hg
      have hg : g ∈ ps.take i := (List.mem_append.mp hg).elim id fun z => absurd (List.mem_singleton.mp z) e
      obtain ⟨r1, r2, r3⟩ := hr g hg
      exact ⟨by rw [upd_ne r3]; exact s _ _ r1, r2, r3⟩
  · have key : ∀ g, g ∈ ps.take (i + 1) → g ≠ f → g ∈ ps.take i := fun g hg e => by
      rw [ht] at hg
      exact (List.mem_append.mp hg).elim id fun z => absurd (List.mem_singleton.mp z) e
    dsimp only at e
    by_cases e1 : g = f
    · by_cases e2 : k = f
      · exact e1.trans e2.symm
      · rw [if_pos e1, if_neg e2] at e
        rw [e, (hr k (key k hk e2)).1] at hp
        cases hp
    · by_cases e2 : k = f
      · rw [if_neg e1, if_pos e2] at e
        rw [← e, (hr g (key g hg e1)).1] at hp
        cases hp
      · rw [if_neg e1, if_neg e2] at e
        exact hi g (key g hg e1) k (key k hk e2) e
/-- the places where sums and ways stand -/
structure Apart (ps : List Str) (sd wd : Addr) (sa wa : Str → Addr) : Prop where
  s : ∀ f ∈ ps, ∀ g ∈ ps, sa f = sa g → f = g
  w : ∀ f ∈ ps, ∀ g ∈ ps, wa f = wa g → f = g
  sw : ∀ f ∈ ps, ∀ g ∈ ps, sa f ≠ wa g
  ss : ∀ f ∈ ps, sa f ≠ sd ∧ sa f ≠ wd
  ww : ∀ f ∈ ps, wa f ≠ sd ∧ wa f ≠ wd
structure ZAt (ps : List Str) (sd wd : Addr) (sa wa : Str → Addr) (H : Hp) (Z : Str → SR × WR) : Prop where
  ds : H sd = some (.dK (outV ps sa))
  dw : H wd = some (.dK (outV ps wa))
  s : ∀ f ∈ ps, H (sa f) = some (.dK (kvR V.int (Z f).1))
  w : ∀ f ∈ ps, H (wa f) = some (.dK (kvR wayV (Z f).2))
theorem ZAt.same {ps : List Str} {sd wd : Addr} {sa wa : Str → Addr} {H H' : Hp} {Z : Str → SR × WR} (h : ZAt ps sd wd sa wa H Z) (s : Same H H') : ZAt ps sd wd sa wa H' Z :=
  ⟨s _ _ h.ds, s _ _ h.dw, fun f hf => s _ _ (h.s f hf), fun f hf => s _ _ (h.w f hf)⟩
theorem ZAt.eq {ps : List Str} {sd wd : Addr} {sa wa : Str → Addr} {H : Hp} {Z Z' : Str → SR × WR} (h : ZAt ps sd wd sa wa H Z) (e : ∀ f ∈ ps, Z' f = Z f) : ZAt ps sd wd sa wa H Z' :=
  ⟨h.ds, h.dw, fun f hf => by rw [e f hf]; exact h.s f hf, fun f hf => by rw [e f hf]; exact h.w f hf⟩
/-- all but sums and ways stays -/
def Off (ps : List Str) (sa wa : Str → Addr) (H H' : Hp) : Prop := ∀ a u, (∀ f ∈ ps, a ≠ sa f) → (∀ f ∈ ps, a ≠ wa f) → H a = some u → H' a = some u
theorem Off.refl {ps : List Str} {sa wa : Str → Addr} {H : Hp} : Off ps sa wa H H := fun _ _ _ _ h => h
theorem Off.trans {ps : List Str} {sa wa : Str → Addr} {H H1 H2 : Hp} (e : Off ps sa wa H H1) (e2 : Off ps sa wa H1 H2) : Off ps sa wa H H2 := fun a u h1 h2 h => e2 a u h1 h2 (e a u h1 h2 h)
theorem Off.same {ps : List Str} {sa wa : Str → Addr} {H H' : Hp} (s : Same H H') : Off ps sa wa H H' := fun a u _ _ h => s a u h
/-- a sum and its way are put -/
theorem ZAt.put {ps : List Str} {sd wd : Addr} {sa wa : Str → Addr} {H : Hp} {Z : Str → SR × WR} (h : ZAt ps sd wd sa wa H Z) (A : Apart ps sd wd sa wa) {f l : Str} (hf : f ∈ ps) (ok : RowOk ps (Z f)) (v : Int) (w : Str ⊕ Addr) :
    (upd H (sa f) (.dK (putK (kvR V.int (Z f).1) (.inr l) (.int v)))) (wa f) = some (.dK (kvR wayV (Z f).2)) ∧ (upd H (sa f) (.dK (putK (kvR V.int (Z f).1) (.inr l) (.int v)))) wd = some (.dK (outV ps wa)) ∧
    ZAt ps sd wd sa wa (upd (upd H (sa f) (.dK (putK (kvR V.int (Z f).1) (.inr l) (.int v)))) (wa f) (.dK (putK (kvR wayV (Z f).2) (.inr l) (wayV w)))) (setR Z f (putR (Z f).1 l v, putR (Z f).2 l w)) ∧
    Off ps sa wa H (upd (upd H (sa f) (.dK (putK (kvR V.int (Z f).1) (.inr l) (.int v)))) (wa f) (.dK (putK (kvR wayV (Z f).2) (.inr l) (wayV w)))) := by
  refine ⟨by rw [upd_ne (A.sw f hf f hf).symm]; exact h.w f hf, by rw [upd_ne (A.ss f hf).2.symm]; exact h.dw, ⟨?_, ?_, fun g hg => ?_, fun g hg => ?_⟩, fun a u h1 h2 ha => ?_⟩
  · rw [upd_ne (A.ww f hf).1.symm, upd_ne (A.ss f hf).1.symm]; exact h.ds
  · rw [upd_ne (A.ww f hf).2.symm, upd_ne (A.ss f hf).2.symm]; exact h.dw
  · rw [upd_ne (A.sw g hg f hf)]
    unfold setR
    by_cases e : g = f
    · rw [if_pos e, e, upd_same, ← putK_kvR V.int ok.s1]
    · rw [if_neg e, upd_ne (fun z => e (A.s g hg f hf z))]
      exact h.s g hg
  · unfold setR
    by_cases e : g = f
    · rw [if_pos e, e, upd_same, ← putK_kvR wayV ok.w1]
    · rw [if_neg e, upd_ne (fun z => e (A.w g hg f hf z)), upd_ne (fun z => A.sw f hf g hg z.symm)]
      exact h.w g hg
  · rw [upd_ne (h2 f hf), upd_ne (h1 f hf)]
    exact ha
/-- what the pairs of a row are, as a list of tuples -/
def PairsAt (H : Hp) (ts : List Addr) (r : SR) : Prop := Paired (fun (t : Addr) (c : Str × Int) => H t = some (.tup [.str c.1, .int c.2])) ts r
theorem pairs_of {H : Hp} : ∀ {ts : List Addr} {r : SR}, Paired (fun (t : Addr) (q : Key × V) => H t = some (.tup [kV q.1, q.2])) ts (kvR V.int r) → PairsAt H ts r := by
  intro ts r h
  induction r generalizing ts with
  | nil => cases h; exact .nil
  | cons c r ih =>
    cases h with
    | cons a b => exact .cons a (ih b)
theorem PairsAt.len {H : Hp} {ts : List Addr} {r : SR} (h : PairsAt H ts r) : ts.length = r.length := Paired.length h
theorem PairsAt.get {H : Hp} {ts : List Addr} {r : SR} (h : PairsAt H ts r) : ∀ {i : Nat} {x : V}, (ts.map V.ref)[i]? = some x → ∃ t c, x = .ref t ∧ t ∈ ts ∧ r[i]? = some c ∧ H t = some (.tup [.str c.1, .int c.2]) := by
  unfold PairsAt at h
  induction h with
  | nil => intro i x e; simp at e
  | @cons a t as bs r _ ih =>
    intro i x e
    cases i with
    | zero =>
      have e : some (V.ref a) = some x := e
      cases e
      exact ⟨a, t, rfl, List.mem_cons_self .., rfl, r⟩
    | succ i =>
      obtain ⟨a', t', h1, h2, h3, h4⟩ := ih (i := i) (x := x) e
      exact ⟨a', t', h1, List.mem_cons_of_mem _ h2, h3, h4⟩
theorem PairsAt.keep {H H' : Hp} {ts : List Addr} {r : SR} (h : PairsAt H ts r) (k : ∀ t ∈ ts, ∀ u, H t = some u → H' t = some u) : PairsAt H' ts r := by
  unfold PairsAt at *
  induction h with
  | nil => exact .nil
  | @cons a t as bs r _ ih => exact .cons (k _ (List.mem_cons_self ..) _ r) (ih fun x hx => k x (List.mem_cons_of_mem _ hx))
/-- the rows handed in -/
def TRowV (r : TRow) : List V := [.str r.1, .str r.2.1, .int r.2.2.1, .ref r.2.2.2]
def TRowsAt (H : Hp) (as : List Addr) (rs : List TRow) : Prop := Paired (fun a r => H a = some (.tup (TRowV r))) as rs
theorem TRowsAt.get {H : Hp} {ts : List Addr} {r : List TRow} (h : TRowsAt H ts r) : ∀ {i : Nat} {x : V}, (ts.map V.ref)[i]? = some x → ∃ t c, x = .ref t ∧ r[i]? = some c ∧ H t = some (.tup (TRowV c)) := by
  unfold TRowsAt at h
  induction h with
  | nil => intro i x e; simp at e
  | @cons a t as bs r _ ih =>
    intro i x e
    cases i with
    | zero =>
      have e : some (V.ref a) = some x := e
      cases e
      exact ⟨a, t, rfl, rfl, r⟩
    | succ i =>
      obtain ⟨a', t', h1, h3, h4⟩ := ih (i := i) (x := x) e
      exact ⟨a', t', h1, h3, h4⟩
theorem TRowsAt.len {H : Hp} {ts : List Addr} {r : List TRow} (h : TRowsAt H ts r) : ts.length = r.length := Paired.length h
end Pu

set_option Elab.async false
set_option linter.all false
set_option maxRecDepth 100000
/-! one place in the middle, step by step -/
namespace Pu
open PySem PySem.Spec PyProof.Rows L2
theorem nodup_len {α : Type} [DecidableEq α] : ∀ {xs ys : List α}, xs.Nodup → (∀ x ∈ xs, x ∈ ys) → xs.length ≤ ys.length
  | [], _, _, _ => Nat.zero_le _
  | x :: xs, ys, nd, h => by
    rw [List.nodup_cons] at nd
    have hx := h x (List.mem_cons_self ..)
    have ih := nodup_len (xs := xs) (ys := ys.erase x) nd.2 fun y hy => (List.mem_erase_of_ne (fun z : y = x => nd.1 (by rw [← z]; exact hy))).mpr (h y (List.mem_cons_of_mem _ hy))
    rw [List.length_erase_of_mem hx] at ih
    have : 0 < ys.length := List.length_pos_of_mem hx
    rw [List.length_cons]
    omega
theorem RowOk.l1 {ps : List Str} {k : SR × WR} (h : RowOk ps k) : k.1.length ≤ ps.length := by
  rw [← List.length_map (f := (·.1)) (as := k.1)]
  exact nodup_len h.s1 h.s2
theorem RowOk.l2 {ps : List Str} {k : SR × WR} (h : RowOk ps k) : k.2.length ≤ ps.length := by
  rw [← List.length_map (f := (·.1)) (as := k.2)]
  exact nodup_len h.w1 h.w2
theorem RowOk.z1 {ps : List Str} {k : SR × WR} (h : RowOk ps k) (hl : ps.length ≤ 9) : (kvR V.int k.1).length < sizeLine := by
  rw [kvR_len]
  exact Nat.lt_of_lt_of_le (Nat.lt_succ_of_le (Nat.le_trans h.l1 hl)) (sz 10)
theorem RowOk.z2 {ps : List Str} {k : SR × WR} (h : RowOk ps k) (hl : ps.length ≤ 9) : (kvR wayV k.2).length < sizeLine := by
  rw [kvR_len]
  exact Nat.lt_of_lt_of_le (Nat.lt_succ_of_le (Nat.le_trans h.l2 hl)) (sz 10)
section
variable {ps : List Str} {sd wd : Addr} {sa wa : Str → Addr} {H : Hp} {Z : Str → SR × WR}
theorem ZAt.gs (h : ZAt ps sd wd sa wa H Z) {f : Str} (hf : f ∈ ps) : DGet H sd (.str f) (some (.ref (sa f))) := .inl ⟨outV ps sa, .inr f, .inl h.ds, rfl, (outV_get hf).symm⟩
theorem ZAt.gw (h : ZAt ps sd wd sa wa H Z) {f : Str} (hf : f ∈ ps) : DGet H wd (.str f) (some (.ref (wa f))) := .inl ⟨outV ps wa, .inr f, .inl h.dw, rfl, (outV_get hf).symm⟩
theorem ZAt.rs (h : ZAt ps sd wd sa wa H Z) {f : Str} (hf : f ∈ ps) (l : Str) : DGet H (sa f) (.str l) ((getR (Z f).1 l).map V.int) := .inl ⟨kvR V.int _, .inr l, .inl (h.s f hf), rfl, (valV_kvR ..).symm⟩
theorem ZAt.rw (h : ZAt ps sd wd sa wa H Z) {f : Str} (hf : f ∈ ps) (l : Str) : DGet H (wa f) (.str l) ((getR (Z f).2 l).map wayV) := .inl ⟨kvR wayV _, .inr l, .inl (h.w f hf), rfl, (valV_kvR ..).symm⟩
end
theorem take_not {ps : List Str} {j : Nat} {f : Str} (nd : ps.Nodup) (hf : ps[j]? = some f) : f ∉ ps.take j := fun z => by
  obtain ⟨i, hi, e⟩ := List.getElem_of_mem z
  rw [List.getElem_take] at e
  rw [List.length_take] at hi
  obtain ⟨hj, e2⟩ := List.getElem?_eq_some_iff.mp hf
  have := (List.getElem_inj (h₀ := by omega) (h₁ := hj) nd).mp (e.trans e2.symm)
  omega
theorem take_mem {ps : List Str} {j : Nat} {f : Str} (hf : ps[j]? = some f) (g : Str) : g ∈ ps.take (j + 1) ↔ g ∈ ps.take j ∨ g = f := by
  rw [List.take_add_one, hf, List.mem_append]
  show _ ∨ g ∈ [f] ↔ _
  rw [List.mem_singleton]
section
variable {ps : List Str} {j : Nat} {f m : Str} {Z : Str → SR × WR} {a : Int}
theorem phase_at (nd : ps.Nodup) (hf : ps[j]? = some f) : phaseZ m (ps.take j) Z f = Z f := by
  unfold phaseZ
  exact if_neg fun z => take_not nd hf z.1
theorem phase0 (g : Str) : phaseZ m (ps.take 0) Z g = Z g := by
  unfold phaseZ
  exact if_neg fun z => absurd z.1 List.not_mem_nil
theorem phase_skip (nd : ps.Nodup) (hf : ps[j]? = some f) (h : f = m ∨ getR (Z f).1 m = none) (g : Str) : phaseZ m (ps.take (j + 1)) Z g = phaseZ m (ps.take j) Z g := by
  by_cases e : g = f
  · rw [e, phase_at nd hf]
    unfold phaseZ
    rcases h with h | h
    · rw [if_neg (fun z => z.2 h)]
    · split
      · unfold phaseR
        rw [h]
      · rfl
  · unfold phaseZ
    by_cases z : g ∈ ps.take j ∧ g ≠ m
    · rw [if_pos z, if_pos ⟨(take_mem hf g).mpr (.inl z.1), z.2⟩]
    · rw [if_neg z, if_neg fun y => z ⟨((take_mem hf g).mp y.1).resolve_right e, y.2⟩]
theorem phase_one (nd : ps.Nodup) (hf : ps[j]? = some f) (hm : f ≠ m) (h : getR (Z f).1 m = some a) (g : Str) : phaseZ m (ps.take (j + 1)) Z g = setR (phaseZ m (ps.take j) Z) f (relaxR m a (Z m).1 (Z f)) g := by
  unfold setR
  by_cases e : g = f
  · rw [if_pos e, e]
    unfold phaseZ
    rw [if_pos ⟨(take_mem hf f).mpr (.inr rfl), hm⟩]
    unfold phaseR
    rw [h]
  · rw [if_neg e]
    unfold phaseZ
    by_cases z : g ∈ ps.take j ∧ g ≠ m
    · rw [if_pos z, if_pos ⟨(take_mem hf g).mpr (.inl z.1), z.2⟩]
    · rw [if_neg z, if_neg fun y => z ⟨((take_mem hf g).mp y.1).resolve_right e, y.2⟩]
theorem setR_self (g : Str) : setR Z f (Z f) g = Z g := by
  unfold setR
  split
  · rename_i e; rw [e]
  · rfl
theorem rowZ_no {r : TRow} (h : better (getR (Z r.1).1 r.2.1) r.2.2.1 = false) (g : Str) : rowZ Z r g = Z g := by
  unfold rowZ rowR
  rw [h, if_neg (by decide)]
  exact setR_self g
theorem rowZ_yes {r : TRow} (h : better (getR (Z r.1).1 r.2.1) r.2.2.1 = true) : rowZ Z r = setR Z r.1 (putR (Z r.1).1 r.2.1 r.2.2.1, putR (Z r.1).2 r.2.1 (.inr r.2.2.2)) := by
  unfold rowZ rowR
  rw [h, if_pos rfl]
end
/-- the sums that are gone through -/
def relaxT (m : Str) (a : Int) (bey : SR) (i : Nat) (k : SR × WR) : SR × WR := (bey.take i).foldl (oneR m a) k
theorem relaxT_all {m : Str} {a : Int} {bey : SR} {k : SR × WR} : relaxT m a bey bey.length k = relaxR m a bey k := by
  unfold relaxT
  rw [List.take_length]
  rfl
theorem relaxT_step {m : Str} {a : Int} {bey : SR} {i : Nat} {k : SR × WR} {c : Str × Int} (h : bey[i]? = some c) : relaxT m a bey (i + 1) k = oneR m a (relaxT m a bey i k) c := by
  unfold relaxT
  rw [List.take_add_one, h, List.foldl_append]
  rfl
theorem relaxT_ok {ps : List Str} {m : Str} {a : Int} {bey : SR} {i : Nat} {k : SR × WR} (ok : RowOk ps k) (hb : ∀ j ∈ bey.map (·.1), j ∈ ps) : RowOk ps (relaxT m a bey i k) :=
  RowOk.relax (bey := bey.take i) ok fun j hj => by
    obtain ⟨c, hc, e⟩ := List.mem_map.mp hj
    exact hb j (e ▸ List.mem_map_of_mem (f := (·.1)) (List.mem_of_mem_take hc))
theorem setR_at {Z : Str → SR × WR} {f : Str} {k : SR × WR} : setR Z f k f = k := if_pos rfl
theorem setR_setR {Z : Str → SR × WR} {f : Str} {k l : SR × WR} : setR (setR Z f k) f l = setR Z f l := by
  funext g
  unfold setR
  split
  · rfl
  · rfl
theorem ZAt.put2 {ps : List Str} {sd wd : Addr} {sa wa : Str → Addr} {H : Hp} {Z : Str → SR × WR} {f l : Str} {R : SR × WR} (h : ZAt ps sd wd sa wa H (setR Z f R)) (A : Apart ps sd wd sa wa) (hf : f ∈ ps) (ok : RowOk ps R) (v : Int) (w : Str ⊕ Addr) :
    (upd H (sa f) (.dK (putK (kvR V.int R.1) (.inr l) (.int v)))) (wa f) = some (.dK (kvR wayV R.2)) ∧ (upd H (sa f) (.dK (putK (kvR V.int R.1) (.inr l) (.int v)))) wd = some (.dK (outV ps wa)) ∧
    ZAt ps sd wd sa wa (upd (upd H (sa f) (.dK (putK (kvR V.int R.1) (.inr l) (.int v)))) (wa f) (.dK (putK (kvR wayV R.2) (.inr l) (wayV w)))) (setR Z f (putR R.1 l v, putR R.2 l w)) ∧
    Off ps sa wa H (upd (upd H (sa f) (.dK (putK (kvR V.int R.1) (.inr l) (.int v)))) (wa f) (.dK (putK (kvR wayV R.2) (.inr l) (wayV w)))) := by
  have := h.put A hf (by rw [setR_at]; exact ok) v w (l := l)
  rw [setR_at, setR_setR] at this
  exact this
theorem ZAt.s2 {ps : List Str} {sd wd : Addr} {sa wa : Str → Addr} {H : Hp} {Z : Str → SR × WR} {f : Str} {R : SR × WR} (h : ZAt ps sd wd sa wa H (setR Z f R)) (hf : f ∈ ps) : H (sa f) = some (.dK (kvR V.int R.1)) := by
  have := h.s f hf
  rw [setR_at] at this
  exact this
theorem oneR_yes {m : Str} {a : Int} {k : SR × WR} {c : Str × Int} (h : better (getR k.1 c.1) (a + c.2) = true) : oneR m a k c = (putR k.1 c.1 (a + c.2), putR k.2 c.1 (.inl m)) := by
  unfold oneR; rw [if_pos h]
theorem oneR_no {m : Str} {a : Int} {k : SR × WR} {c : Str × Int} (h : better (getR k.1 c.1) (a + c.2) = false) : oneR m a k c = k := by
  unfold oneR; rw [h, if_neg (by decide)]
end Pu

set_option Elab.async false
set_option linter.all false
set_option maxRecDepth 100000
/-! the rows between two places; a field as a target -/
namespace Pu
open PySem PySem.Spec PyProof.Rows L2
/-! ### o.f = v, as one of several targets -/
def gFld (K : PySem.W.Frag) (ta : TE) (f : Str) : TG := fun v σ H Q => ta σ H fun x H1 => ∃ a C dx fs, x = .ref a ∧ H1 a = some (.ins C dx fs) ∧ Cls K C ∧ NoAttr K C f ∧ fs.length < 1000 ∧ Q σ (upd H1 a (.ins C dx (putF f v fs)))
theorem pg_fld {X : Cx} {o : Expr} {f : Str} {pos : Pos} {ta : TE} (ha : PE X o ta) : PG X (.Attribute o f pos) (gFld X.K ta f) := by
  refine ⟨fun pins s σ H v u Q I r h => ?_⟩
  rw [assign_Attribute]
  refine wpAny_bind (wpAny_holding (thn (ha.run pins s σ H _ I h) fun ov s1 ⟨x, H1, I1, rx, a, C, dx, fs, ex, ea, c, n, l, q⟩ => ?_))
  subst ex
  obtain rfl : ov = Value.ref a := rx
  refine wpAny_bind (wpAny_standAt (wpAny_bind (wpAny_holding (setattr_ok I1 ea c n l r fun s2 I2 => ?_))))
  exact wpAny_release ⟨σ, _, I2, q⟩
/-! ### the rows that a sum is made of -/
def between (Z : Str → SR × WR) : Nat → Str → Str → List Addr
  | 0, _, _ => []
  | n + 1, f, l => match wOf Z f l with
    | none => []
    | some (.inr t) => [t]
    | some (.inl k) => between Z n f k ++ between Z n k l
theorem between_none {Z : Str → SR × WR} {n : Nat} {f l : Str} (h : wOf Z f l = none) : between Z (n + 1) f l = [] := by
  unfold between; rw [h]
theorem between_row {Z : Str → SR × WR} {n : Nat} {f l : Str} {t : Addr} (h : wOf Z f l = some (.inr t)) : between Z (n + 1) f l = [t] := by
  unfold between; rw [h]
theorem between_mid {Z : Str → SR × WR} {n : Nat} {f l k : Str} (h : wOf Z f l = some (.inl k)) : between Z (n + 1) f l = between Z n f k ++ between Z n k l := by
  rw [between, h]
theorem between_len (Z : Str → SR × WR) : ∀ (n : Nat) (f l : Str), (between Z n f l).length ≤ 2 ^ n
  | 0, f, l => Nat.zero_le _
  | n + 1, f, l => by
    have p : 0 < 2 ^ n := Nat.pow_pos (by decide)
    have e : 2 ^ (n + 1) = 2 ^ n + 2 ^ n := by rw [Nat.pow_succ]; omega
    cases h : wOf Z f l with
    | none => rw [between_none h]; exact Nat.zero_le _
    | some w =>
      cases w with
      | inr t => rw [between_row h]; show 1 ≤ _; omega
      | inl k =>
        rw [between_mid h, List.length_append]
        have := between_len Z n f k
        have := between_len Z n k l
        omega
theorem between_sz {Z : Str → SR × WR} {n : Nat} (h : n ≤ 12) (f l : Str) : (between Z n f l).length ≤ 4096 := Nat.le_trans (between_len Z n f l) (Nat.pow_le_pow_right (by decide) h)
theorem row_key (Z : Str → SR × WR) (r : TRow) (f l : Str) : (f = r.1 ∧ l = r.2.1 ∧ better (sOf Z f l) r.2.2.1 = true ∧ sOf (rowZ Z r) f l = some r.2.2.1 ∧ wOf (rowZ Z r) f l = some (.inr r.2.2.2)) ∨ (sOf (rowZ Z r) f l = sOf Z f l ∧ wOf (rowZ Z r) f l = wOf Z f l) := by
  obtain ⟨f0, l0, a0, t0⟩ := r
  unfold rowZ setR sOf wOf
  show (f = f0 ∧ l = l0 ∧ _ ∧ getR (if f = f0 then rowR l0 a0 t0 (Z f0) else Z f).1 l = _ ∧ getR (if f = f0 then rowR l0 a0 t0 (Z f0) else Z f).2 l = _) ∨ (getR (if f = f0 then rowR l0 a0 t0 (Z f0) else Z f).1 l = _ ∧ getR (if f = f0 then rowR l0 a0 t0 (Z f0) else Z f).2 l = _)
  by_cases e : f = f0
  · rw [if_pos e, e]
    unfold rowR
    by_cases b : better (getR (Z f0).1 l0) a0 = true
    · rw [if_pos b]
      by_cases z : l = l0
      · rw [z]
        exact .inl ⟨rfl, rfl, b, (getR_put ..).trans (if_pos rfl), (getR_put ..).trans (if_pos rfl)⟩
      · exact .inr ⟨(getR_put ..).trans (if_neg z), (getR_put ..).trans (if_neg z)⟩
    · rw [if_neg b]
      exact .inr ⟨rfl, rfl⟩
  · rw [if_neg e]
    exact .inr ⟨rfl, rfl⟩
/-- single rows that ways name are rows, and their numbers the sums -/
def WRows (ps : List Str) (rs : List TRow) (Z : Str → SR × WR) : Prop := ∀ f ∈ ps, ∀ l t, wOf Z f l = some (.inr t) → ∃ a, (f, l, a, t) ∈ rs ∧ sOf Z f l = some a
theorem WRows.row {ps : List Str} {rs : List TRow} {Z : Str → SR × WR} (h : WRows ps rs Z) {r : TRow} (hr : r ∈ rs) : WRows ps rs (rowZ Z r) := by
  intro f hf l t hw
  rcases row_key Z r f l with ⟨e1, e2, _, h1, h2⟩ | ⟨h1, h2⟩
  · rw [h2] at hw
    obtain ⟨f0, l0, a0, t0⟩ := r
    have e1 : f = f0 := e1
    have e2 : l = l0 := e2
    have hw : some (Sum.inr t0 : Str ⊕ Addr) = some (.inr t) := hw
    cases hw
    exact ⟨a0, by rw [e1, e2]; exact hr, h1⟩
  · rw [h2] at hw
    obtain ⟨a, q1, q2⟩ := h f hf l t hw
    exact ⟨a, q1, h1.trans q2⟩
theorem WRows.rows {ps : List Str} {rs : List TRow} : ∀ {ss : List TRow} {Z : Str → SR × WR}, WRows ps rs Z → (∀ r ∈ ss, r ∈ rs) → WRows ps rs (ss.foldl rowZ Z)
  | [], _, h, _ => h
  | r :: ss, _, h, hs => WRows.rows (ss := ss) (h.row (hs r (List.mem_cons_self ..))) fun x hx => hs x (List.mem_cons_of_mem _ hx)
theorem WRows.phase {ps P : List Str} {rs : List TRow} {Z : Str → SR × WR} (h : WRows ps rs Z) (I : SInv ps P Z) {m : Str} (hm : m ∈ ps) : WRows ps rs (phaseZ m ps Z) := by
  intro f hf l t hw
  rcases phase_get I hm hf l with ⟨a, b, _, _, _, _, h2⟩ | ⟨_, h1, h2⟩
  · rw [h2] at hw
    cases hw
  · rw [h2] at hw
    obtain ⟨a, q1, q2⟩ := h f hf l t hw
    exact ⟨a, q1, h1.trans q2⟩
theorem close_rows {ps : List Str} (nd : ps.Nodup) {rs : List TRow} {Z : Str → SR × WR} (I : SInv ps [] Z) (h : WRows ps rs Z) : ∀ n, n ≤ ps.length → WRows ps rs (closeZ ps n Z)
  | 0, _ => h
  | n + 1, hn => by
    have hn : n < ps.length := hn
    have e : ps[n]? = some ps[n] := List.getElem?_eq_getElem hn
    rw [close_step e]
    exact (close_rows nd I h n (Nat.le_of_lt hn)).phase (close_inv nd I n (Nat.le_of_lt hn)) (List.getElem_mem hn)
theorem begin_rows {ps : List Str} {rs : List TRow} : WRows ps rs beginZ := fun f _ l t h => (nomatch h)
/-- the closed sums of rows -/
abbrev allZ (ps : List Str) (rs : List TRow) : Str → SR × WR := closeZ ps ps.length (rowsZ rs)
theorem all_inv {ps : List Str} (nd : ps.Nodup) {rs : List TRow} (h : ∀ r ∈ rs, r.1 ∈ ps ∧ r.2.1 ∈ ps ∧ 0 ≤ r.2.2.1) : SInv ps ps (allZ ps rs) := by
  have := close_inv nd (rows_inv (begin_inv ps) h) ps.length (Nat.le_refl _)
  rw [List.take_length] at this
  exact this
theorem all_rows {ps : List Str} (nd : ps.Nodup) {rs : List TRow} (h : ∀ r ∈ rs, r.1 ∈ ps ∧ r.2.1 ∈ ps ∧ 0 ≤ r.2.2.1) : WRows ps rs (allZ ps rs) :=
  close_rows nd (rows_inv (begin_inv ps) h) (WRows.rows begin_rows fun _ hr => hr) ps.length (Nat.le_refl _)
/-! ### rows_between -/
def spBtw (n : Nat) : Sp := fun vs H Q _ => ∃ (wd : Addr) (wa : Str → Addr) (ps : List Str) (Z : Str → SR × WR) (f l : Str), vs = [.ref wd, .str f, .str l] ∧ H wd = some (.dK (outV ps wa)) ∧ (∀ g ∈ ps, H (wa g) = some (.dK (kvR wayV (Z g).2))) ∧ SInv ps ps Z ∧
  (∀ g ∈ ps, ∀ k t, wOf Z g k = some (.inr t) → ∃ xs, H t = some (.tup xs)) ∧ f ∈ ps ∧ n ≤ 12 ∧ wi ps (wOf Z f l) < n ∧ ∀ q H', Same H H' → H q = none → H' q = some (.lst ((between Z n f l).map V.ref)) → Q (.ref q) H'
/-! ### the least moment with a count -/
def leastOf (Z : Str → SR × WR) (e : Str) (n : Int) (g : Str) : Int := if n - (sOf Z g e).getD n > 0 then n - (sOf Z g e).getD n else 0
def leastR (Z : Str → SR × WR) (e : Str) (n : Int) (es : List Str) : SR := es.map fun g => (g, leastOf Z e n g)
theorem leastR_snoc {Z : Str → SR × WR} {e : Str} {n : Int} {es : List Str} {g : Str} (h : g ∉ es) : putK (kvR V.int (leastR Z e n es)) (.inr g) (.int (leastOf Z e n g)) = kvR V.int (leastR Z e n (es ++ [g])) := by
  rw [putK_new _ (by
    rw [valV_kvR, getR_none]
    · rfl
    · unfold leastR
      rw [List.map_map]
      intro z
      obtain ⟨x, hx, e⟩ := List.mem_map.mp z
      have e : x = g := e
      exact h (e ▸ hx))]
  unfold leastR kvR
  rw [List.map_append, List.map_append]
  rfl
theorem leastR_len {Z : Str → SR × WR} {e : Str} {n : Int} {es : List Str} : (kvR V.int (leastR Z e n es)).length = es.length := by
  unfold leastR
  rw [kvR_len, List.length_map]
theorem unlock_same {H H' : Hp} {q : Addr} {u v : HO} (hq : H q = some u) (s : Same (upd H q v) H') : Same H (upd H' q u) := fun b o hb => by
  by_cases e : b = q
  · rw [e] at hb ⊢
    rw [hq] at hb
    rw [← hb]
    exact upd_same
  · rw [upd_ne e]
    exact s b o (by rw [upd_ne e]; exact hb)
theorem getD_int (o : Option Int) (n : Int) : (o.map V.int).getD (.int n) = .int (o.getD n) := by cases o <;> rfl
def notN (g : Str) : Bool := decide (g ≠ ("" : Str))
theorem filt_yes {ps : List Str} {i : Nat} {g : Str} (h : ps[i]? = some g) (e : g ≠ ("" : Str)) : ((ps.take (i + 1)).filter notN) = ((ps.take i).filter notN) ++ [g] := by
  rw [List.take_add_one, h, List.filter_append]
  congr 1
  show List.filter _ [g] = [g]
  rw [List.filter_cons, if_pos (show notN g = true from decide_eq_true e)]
  rfl
theorem filt_no {ps : List Str} {i : Nat} {g : Str} (h : ps[i]? = some g) (e : g = ("" : Str)) : ((ps.take (i + 1)).filter notN) = ((ps.take i).filter notN) := by
  rw [List.take_add_one, h, List.filter_append]
  show _ ++ List.filter _ [g] = _
  rw [List.filter_cons, if_neg (by rw [e]; exact (by decide : ¬ notN ("" : Str) = true))]
  exact List.append_nil _
theorem filt_all {evs : List Str} (h : (("" : Str) :: evs).Nodup) : (((("" : Str) :: evs).filter notN)) = evs := by
  rw [List.filter_cons, if_neg (by decide)]
  refine List.filter_eq_self.mpr fun a ha => decide_eq_true fun e => ?_
  rw [List.nodup_cons] at h
  exact h.1 (e ▸ ha)
end Pu

set_option Elab.async false
set_option linter.all false
set_option maxRecDepth 100000
set_option maxHeartbeats 4000000
namespace Pk
open PySem PySem.Spec PyProof.Rows L2 Pu
abbrev s_close : Stmt := topS 5
theorem sc_close : FnScope ["places", "placed", "sums", "ways", "first", "last", "added", "row", "middle", "beyond", "known", "ahead", "more", "place"] ["places", "placed"] (defScope s_close) := ⟨rfl, rfl, rfl, by decide +kernel, rfl, by decide +kernel, by decide +kernel⟩

section
variable {P : Program} {w : World} {K : PySem.W.Frag} {mg : Str → Option Value} {base : Heap}
/-! ### closed sums -/
theorem dcK_it {J : It} {n : Nat} {G : Hp → Prop} {Y : Nat → Hp → V → Hp → Prop} (w : Walk J n G Y) {g : TG} {tt : TT} {tk tv : TE} {vs : List Nat} {σ : L2.St} {H1 : Hp} {D : Addr} {Qd : Hp → Prop} (Pv : Nat → Hp → Prop) (h0 : Pv 0 (upd H1 D (.dK []))) (hG : ∀ i H, i ≤ n → Pv i H → G H)
    (hs : ∀ i x H H', i < n → Pv i H → Y i H x H' → g x (wipe σ vs) H' fun σ2 H2 => wipe σ2 vs = wipe σ vs ∧ tt σ2 H2 fun b H3 =>
      if b = true then tk σ2 H3 fun y H4 => tv σ2 H4 fun z H5 => ∃ kvs k, y = kV k ∧ H5 D = some (.dK kvs) ∧ kvs.length < sizeLine ∧ Pv (i + 1) (upd H5 D (.dK (putK kvs k z))) else Pv (i + 1) H3) (hd : ∀ H, Pv n H → Qd H) :
    ∃ W : Nat → Nat → Hp → Prop, (∃ m, W 0 m (upd H1 D (.dK []))) ∧ ∀ i m H, W i m H →
      (J.stop i H ∧ Qd H) ∨ (J.go i H ∧ ∃ Nx : Hp → Prop, (∀ H', Nx H' → ∃ m', m' < m ∧ W (i + 1) m' H') ∧ ∀ x H', J.yld i H x H' → g x (wipe σ vs) H' fun σ2 H2 => wipe σ2 vs = wipe σ vs ∧ tt σ2 H2 fun b H3 =>
        if b = true then tk σ2 H3 fun y H4 => tv σ2 H4 fun z H5 => ∃ kvs k, y = kV k ∧ H5 D = some (.dK kvs) ∧ kvs.length < sizeLine ∧ Nx (upd H5 D (.dK (putK kvs k z))) else Nx H3) := by
  refine ⟨fun i m H => m = n - i ∧ i ≤ n ∧ Pv i H, ⟨n, by simp, Nat.zero_le _, h0⟩, ?_⟩
  rintro i m H ⟨rfl, hi, p⟩
  rcases Nat.lt_or_ge i n with hlt | hge
  · exact .inr ⟨w.goes i H hlt (hG i H hi p), Pv (i + 1), fun H' p' => ⟨n - (i + 1), by omega, rfl, hlt, p'⟩, fun x H' y => hs i x H H' hlt p (w.yields i H x H' hlt (hG i H hi p) y)⟩
  · have e : i = n := Nat.le_antisymm hi hge
    subst e
    exact .inl ⟨w.stops H (hG _ H hi p), hd H p⟩
def spClose : Sp := fun vs H Q _ => ∃ (p q : Addr) (ps : List Str) (as : List Addr) (rs : List TRow), vs = [.ref p, .ref q] ∧ H p = some (.lst (ps.map V.str)) ∧ H q = some (.lst (as.map V.ref)) ∧ TRowsAt H as rs ∧ ps.Nodup ∧ ps.length ≤ 9 ∧ rs.length ≤ 100 ∧ (∀ r ∈ rs, r.1 ∈ ps ∧ r.2.1 ∈ ps ∧ 0 ≤ r.2.2.1) ∧
  ∀ t sd wd sa wa H', Same H H' → H t = none → H' t = some (.tup [.ref sd, .ref wd]) → ZAt ps sd wd sa wa H' (closeZ ps ps.length (rowsZ rs)) → Q (.ref t) H'
theorem ok_close {f : Addr} {fd : FuncData} (F : Fun K "close" "close" s_close f fd) (T : Txt mg) : FnOk P w K mg base CX0 1 f fd ["places", "placed"] (spClose) := by
  have nd := sc_close.nd
  refine F.ok sc_close (fun vs H Q E h => ?_) (fun cdv A outer s H vs Q E hr h => ?_)
  · obtain ⟨_, _, _, _, _, rfl, _⟩ := h
    rfl
  · obtain ⟨p, q, ps, as, rs, rfl, hp, hq, hR, hnd, hl9, hrl, hrs, qq⟩ := h
    have hu := hu_of hr
    refine ⟨_, (pss_cons (ps_setDc (i := 2) (y := "sums") (own := [("place", 13)]) (g := gName 13) (tt := tYes) rfl nd rfl rfl (sw_dict rfl rfl rfl (by decide +kernel)) (pi_list (pv 0)) (blkOk_by (N := ["places", "placed", "sums", "ways", "first", "last", "added", "row", "middle", "beyond", "known", "ahead", "more", "place"]) (sc := defScope s_close) (by decide +kernel)) (fun _ _ _ _ _ => pg_name (i := 13) nd rfl (Or.inl rfl)) (fun _ _ _ _ _ => pts_nil) (fun _ _ _ _ _ => (pv 13)) (fun _ _ _ _ _ => (pe_disp (pps_cons (pv 13) pe_int pps_nil) (by rfl) (by rfl) (by simp) (by decide))))
      (pss_cons (ps_setDc (i := 3) (y := "ways") (own := [("place", 13)]) (g := gName 13) (tt := tYes) rfl nd rfl rfl (sw_dict rfl rfl rfl (by decide +kernel)) (pi_list (pv 0)) (blkOk_by (N := ["places", "placed", "sums", "ways", "first", "last", "added", "row", "middle", "beyond", "known", "ahead", "more", "place"]) (sc := defScope s_close) (by decide +kernel)) (fun _ _ _ _ _ => pg_name (i := 13) nd rfl (Or.inl rfl)) (fun _ _ _ _ _ => pts_nil) (fun _ _ _ _ _ => (pv 13)) (fun _ _ _ _ _ => pe_dnewK))
      (pss_cons (ps_for PassesOwn.never rfl (pi_list (pv 1)) (pg_tup rfl (pgs_cons (pg_name (i := 4) nd rfl (Or.inl rfl)) (pgs_cons (pg_name (i := 5) nd rfl (Or.inl rfl)) (pgs_cons (pg_name (i := 6) nd rfl (Or.inl rfl)) (pgs_cons (pg_name (i := 7) nd rfl (Or.inl rfl)) pgs_nil)))))
      (pss_one (ps_if (PW.pt (pw_or (pt_cmp (pc_dnotin hu (pv 5) (pe_dget hu (pv 2) (pv 4) (fun _ _ => rfl))) (by rfl)) (pw_or1 (pt_cmpR op_lt (pv 6) (pe_dget hu (pe_dget hu (pv 2) (pv 4) (fun _ _ => rfl)) (pv 5) (fun _ _ => rfl)) (by rfl)))))
      (pss_cons (ps_dput hu (pe_dget hu (pv 2) (pv 4) (fun _ _ => rfl)) (pv 5) (pv 6) rfl)
      (pss_one (ps_dput hu (pe_dget hu (pv 3) (pv 4) (fun _ _ => rfl)) (pv 5) (pv 7) rfl))) pss_nil)))
      (pss_cons (ps_for PassesOwn.never rfl (pi_list (pv 0)) (pg_name (i := 8) nd rfl (Or.inl rfl))
      (pss_cons (ps_set (i := 9) nd rfl (Or.inl rfl) (LiI.pe_listItems rfl (pe_dget hu (pv 2) (pv 8) (fun _ _ => rfl)) (by rfl) T.m_list PyProof.Rows.boot_list))
      (pss_one (ps_for PassesOwn.never rfl (pi_list (pv 0)) (pg_name (i := 4) nd rfl (Or.inl rfl))
      (pss_cons (ps_set (i := 10) nd rfl (Or.inl rfl) (pe_dget hu (pv 2) (pv 4) (fun _ _ => rfl)))
      (pss_cons (ps_if (PW.pt (pw_or (pt_cmpR op_eq (pv 4) (pv 8) (by rfl)) (pw_or1 (pt_cmp (pc_dnotin hu (pv 8) (pv 10)) (by rfl)))))
      (pss_one ps_continue) pss_nil)
      (pss_cons (ps_set (i := 11) nd rfl (Or.inl rfl) (pe_dget hu (pv 10) (pv 8) (fun _ _ => rfl)))
      (pss_one (ps_for PassesOwn.never rfl (pi_list (pv 9)) (pg_tup rfl (pgs_cons (pg_name (i := 5) nd rfl (Or.inl rfl)) (pgs_cons (pg_name (i := 12) nd rfl (Or.inl rfl)) pgs_nil)))
      (pss_one (ps_if (PW.pt (pw_or (pt_cmp (pc_dnotin hu (pv 5) (pv 10)) (by rfl)) (pw_or1 (pt_cmpR op_lt (pe_op oAdd (pv 11) (pv 12)) (pe_dget hu (pv 10) (pv 5) (fun _ _ => rfl)) (by rfl)))))
      (pss_cons (ps_dput hu (pv 10) (pv 5) (pe_op oAdd (pv 11) (pv 12)) rfl)
      (pss_one (ps_dput hu (pe_dget hu (pv 3) (pv 4) (fun _ _ => rfl)) (pv 5) (pv 8) rfl))) pss_nil)))))))))))
      (pss_one (ps_ret (pe_tup (pa_cons (pv 2) (pa_cons (pv 3) pa_nil))))))))), ?_⟩
    have hgs : ∀ {i : Nat} {x : V}, (ps.map V.str)[i]? = some x → ∃ f, ps[i]? = some f ∧ x = .str f := fun h => strs_get h
    refine seq_asg ?_
    refine ⟨_, rfl, p, rfl, ⟨_, .inl (.inl hp)⟩, fun D hD => ?_⟩
    refine dcK_it (walk_list (K := K) (a := p) (xs := ps.map V.str)) (fun i H' => OutAt H D ps (fun f => .dK (kvR V.int [(f, 0)])) i H') (OutAt.begin hD) (fun i H' _ pv => .inl (.inl (pv.1 _ _ hp))) (fun i x H4 H5 hi pv yv => ?_) (fun H4 pv => ?_)
    · obtain ⟨rfl, hx⟩ := yv
      obtain ⟨f, hf, rfl⟩ := hgs hx
      refine ⟨rfl, _, rfl, fun p2 hp2 => ⟨_, rfl, upd_same, [(.inr f, .int 0)], rfl, by show 1 ≤ 15; decide, ?_⟩⟩
      have s2 : Same H5 (upd (upd H5 p2 (.dK [])) p2 (.dK (mergeK [] [(.inr f, .int 0)]))) := fun a u hu => by
        rw [upd_ne (ne_of_none hu hp2), upd_ne (ne_of_none hu hp2)]
        exact hu
      obtain ⟨kvs, hk, hkl, hn⟩ := pv.step hD hnd hf hp2 s2 upd_same
      exact ⟨kvs, .inr f, rfl, hk, Nat.lt_of_le_of_lt hkl (Nat.lt_of_lt_of_le (by rw [List.length_map] at hi; omega) (sz 1000)), hn⟩
    rw [List.length_map] at pv
    obtain ⟨s04, sa, hsd, hsr, hsi⟩ := pv
    rw [List.take_length] at hsd hsr hsi
    refine gname (seq_asg ?_)
    refine ⟨_, rfl, p, rfl, ⟨_, .inl (.inl (s04 _ _ hp))⟩, fun D2 hD2 => ?_⟩
    refine dcK_it (walk_list (K := K) (a := p) (xs := ps.map V.str)) (fun i H' => OutAt H4 D2 ps (fun f => .dK (kvR wayV [])) i H') (OutAt.begin hD2) (fun i H' _ pv => .inl (.inl (pv.1 _ _ (s04 _ _ hp)))) (fun i x H5 H6 hi pv yv => ?_) (fun H5 pv => ?_)
    · obtain ⟨rfl, hx⟩ := yv
      obtain ⟨f, hf, rfl⟩ := hgs hx
      refine ⟨rfl, _, rfl, fun p2 hp2 => ?_⟩
      obtain ⟨kvs, hk, hkl, hn⟩ := pv.step hD2 hnd hf hp2 (same_upd hp2) upd_same
      exact ⟨kvs, .inr f, rfl, hk, Nat.lt_of_le_of_lt hkl (Nat.lt_of_lt_of_le (by rw [List.length_map] at hi; omega) (sz 1000)), hn⟩
    rw [List.length_map] at pv
    obtain ⟨s45, wa, hwd, hwr, hwi⟩ := pv
    rw [List.take_length] at hwd hwr hwi
    -- all apart
    have A : Apart ps D D2 sa wa := by
      refine ⟨hsi, hwi, fun f hf g hg e => ?_, fun f hf => ⟨(hsr f hf).2.2, fun e => ?_⟩, fun f hf => ⟨fun e => ?_, (hwr f hf).2.2⟩⟩
      · have := (hwr g hg).2.1
        rw [← e, (hsr f hf).1] at this
        cases this
      · have := (hsr f hf).1
        rw [e, hD2] at this
        cases this
      · have := (hwr f hf).2.1
        rw [e, hsd] at this
        cases this
    have Z0 : ZAt ps D D2 sa wa H5 beginZ := ⟨s45 _ _ hsd, hwd, fun f hf => s45 _ _ (hsr f hf).1, fun f hf => (hwr f hf).1⟩
    have s05 := Same.trans s04 s45
    have nf : ∀ f ∈ ps, H (sa f) = none ∧ H (wa f) = none := fun f hf => ⟨(hsr f hf).2.1, s04.free (hwr f hf).2.1⟩
    have off : ∀ {H'}, Off ps sa wa H5 H' → Same H H' := fun o a u hu => o a u (fun f hf e => by rw [e, (nf f hf).1] at hu; cases hu) (fun f hf e => by rw [e, (nf f hf).2] at hu; cases hu) (s05 _ _ hu)
    clear hsd hsr hsi hwd hwr hwi s45 s04 hD2
    refine gname (seq_st ?_)
    refine ⟨_, rfl, q, rfl, ⟨_, .inl (.inl (s05 _ _ hq))⟩, ?_⟩
    refine for_it (walk_list (K := K) (a := q) (xs := as.map V.ref)) (fun i σ H' => Off ps sa wa H5 H' ∧ ZAt ps D D2 sa wa H' ((rs.take i).foldl rowZ beginZ) ∧ ∃ v4 v5 v6 v7, σ = [some (.ref p), some (.ref q), some (.ref D), some (.ref D2), v4, v5, v6, v7, none, none, none, none, none, none]) ⟨Off.refl, Z0, _, _, _, _, rfl⟩
      (fun i σ H' _ pv => .inl (.inl (off pv.1 _ _ hq))) (fun i x σ H6 H7 hi pv yv => ?_) (fun σ H6 pv => ?_)
    · obtain ⟨rfl, hx⟩ := yv
      obtain ⟨o6, Z6, v4, v5, v6, v7, rfl⟩ := pv
      obtain ⟨ct, c, rfl, hc, hcell⟩ := hR.get hx
      obtain ⟨f, l, a, rt⟩ := c
      have hcm := List.mem_of_getElem? hc
      obtain ⟨hf, hl, ha⟩ := hrs _ hcm
      have hf : f ∈ ps := hf
      have hl : l ∈ ps := hl
      have hI : SInv ps [] ((rs.take i).foldl rowZ beginZ) := rows_inv (begin_inv ps) fun r hr => hrs r (List.mem_of_mem_take hr)
      have hnext : (rs.take (i + 1)).foldl rowZ beginZ = rowZ ((rs.take i).foldl rowZ beginZ) (f, l, a, rt) := by
        rw [List.take_add_one, hc, List.foldl_append]
        rfl
      have hcell6 := off o6 _ _ hcell
      revert hnext hI Z6
      generalize (rs.take i).foldl rowZ beginZ = Z
      intro Z6 hI hnext
      refine ⟨ct, _, rfl, .inl (.inl hcell6), rfl, _, _, rfl, _, _, rfl, _, _, rfl, _, _, rfl, rfl, ?_⟩
      have gs := Z6.gs hf
      have gr := Z6.rs hf l
      have okf := hI.ok f hf
      obtain ⟨q1, q2, q3, q4⟩ := Z6.put A hf okf a (.inr rt) (l := l)
      have gw : DGet _ D2 (.str f) (some (.ref (wa f))) := .inl ⟨outV ps wa, .inr f, .inl q2, rfl, (outV_get hf).symm⟩
      cases ho : getR (Z f).1 l with
      | none =>
        have hb : better (getR (Z f).1 l) a = true := by rw [ho]; rfl
        rw [ho] at gr
        refine ⟨_, rfl, _, rfl, _, rfl, D, _, rfl, gs, sa f, _, rfl, gr, _, rfl, ?_⟩
        refine ⟨_, rfl, _, rfl, _, rfl, D, _, rfl, gs, _, rfl, sa f, _, rfl, .inl ⟨_, .inr l, Z6.s f hf, rfl, okf.z1 hl9, rfl⟩, _, rfl, _, rfl, _, rfl, D2, _, rfl, gw, _, rfl, wa f, _, rfl, .inl ⟨_, .inr l, q1, rfl, okf.z2 hl9, rfl⟩, o6.trans q4, ?_, _, _, _, _, rfl⟩
        rw [hnext, rowZ_yes (r := (f, l, a, rt)) hb]
        exact q3
      | some u =>
        rw [ho] at gr
        refine ⟨_, rfl, _, rfl, _, rfl, D, _, rfl, gs, sa f, _, rfl, gr, _, rfl, ?_⟩
        refine ⟨_, rfl, _, rfl, _, rfl, D, _, rfl, gs, _, rfl, sa f, .int u, rfl, gr, _, _, rfl, rfl, _, rfl, ite2 (fun hlt => ?_) (fun hlt => ?_)⟩
        · have hb : better (getR (Z f).1 l) a = true := by rw [ho]; exact hlt
          refine ⟨_, rfl, _, rfl, _, rfl, D, _, rfl, gs, _, rfl, sa f, _, rfl, .inl ⟨_, .inr l, Z6.s f hf, rfl, okf.z1 hl9, rfl⟩, _, rfl, _, rfl, _, rfl, D2, _, rfl, gw, _, rfl, wa f, _, rfl, .inl ⟨_, .inr l, q1, rfl, okf.z2 hl9, rfl⟩, o6.trans q4, ?_, _, _, _, _, rfl⟩
          rw [hnext, rowZ_yes (r := (f, l, a, rt)) hb]
          exact q3
        · have hb : better (getR (Z f).1 l) a = false := by rw [ho]; exact Bool.eq_false_iff.mpr hlt
          refine ⟨o6, ?_, _, _, _, _, rfl⟩
          rw [hnext]
          exact Z6.eq fun g _ => rowZ_no (r := (f, l, a, rt)) hb g
    · rw [List.length_map, hR.len, List.take_length] at pv
      obtain ⟨o6, Z6, v4, v5, v6, v7, rfl⟩ := pv
      have I0 : SInv ps [] (rowsZ rs) := rows_inv (begin_inv ps) hrs
      refine seq_st ?_
      refine ⟨_, rfl, p, rfl, ⟨_, .inl (.inl (off o6 _ _ hp))⟩, ?_⟩
      refine for_it (walk_list (K := K) (a := p) (xs := ps.map V.str)) (fun i σ H' => Off ps sa wa H5 H' ∧ ZAt ps D D2 sa wa H' (closeZ ps i (rowsZ rs)) ∧ ∃ v4 v5 v6 v7 v8 v9 v10 v11 v12, σ = [some (.ref p), some (.ref q), some (.ref D), some (.ref D2), v4, v5, v6, v7, v8, v9, v10, v11, v12, none]) ⟨o6, Z6, _, _, _, _, _, _, _, _, _, rfl⟩
        (fun i σ H' _ pv => .inl (.inl (off pv.1 _ _ hp))) (fun i x σ H7' H7 hi pv yv => ?_) (fun σ H7 pv => ?_)
      · obtain ⟨rfl, hx⟩ := yv
        obtain ⟨m, hm, rfl⟩ := hgs hx
        obtain ⟨o7, Z7, v4, v5, v6, v7, v8, v9, v10, v11, v12, rfl⟩ := pv
        have hmp := List.mem_of_getElem? hm
        have hin := (List.getElem?_eq_some_iff.mp hm).1
        have I7 : SInv ps (ps.take i) (closeZ ps i (rowsZ rs)) := close_inv hnd I0 i (Nat.le_of_lt hin)
        have hnext : closeZ ps (i + 1) (rowsZ rs) = phaseZ m ps (closeZ ps i (rowsZ rs)) := close_step hm
        revert hnext I7 Z7
        generalize closeZ ps i (rowsZ rs) = Z
        intro Z7 I7 hnext
        have okm := I7.ok m hmp
        refine gname (seq_asg ?_)
        refine ⟨_, rfl, _, rfl, D, _, rfl, Z7.gs hmp, sa m, _, rfl, Z7.s m hmp, fun H8 bp ts s78 nbp nts bnt hb8 hpt => ?_⟩
        have hpr : PairsAt H8 ts (Z m).1 := pairs_of hpt
        clear hpt
        have n7 : ∀ {b : Addr}, H7 b = none → ∀ f ∈ ps, b ≠ sa f ∧ b ≠ wa f := fun hb f hf => ⟨fun e => (by rw [e, Z7.s f hf] at hb; cases hb), fun e => (by rw [e, Z7.w f hf] at hb; cases hb)⟩
        have Z8 := Z7.same s78
        have o8 : Off ps sa wa H5 H8 := Off.trans o7 (Off.same s78)
        refine gname ?_
        refine ⟨_, rfl, p, rfl, ⟨_, .inl (.inl (off o8 _ _ hp))⟩, ?_⟩
        refine for_it (walk_list (K := K) (a := p) (xs := ps.map V.str)) (fun j σ H' => Off ps sa wa H8 H' ∧ ZAt ps D D2 sa wa H' (phaseZ m (ps.take j) Z) ∧ ∃ v4 v5 v6 v7 v10 v11 v12, σ = [some (.ref p), some (.ref q), some (.ref D), some (.ref D2), v4, v5, v6, v7, some (.str m), some (.ref bp), v10, v11, v12, none]) ⟨Off.refl, Z8.eq fun g _ => phase0 g, _, _, _, _, _, _, _, rfl⟩
          (fun j σ H' _ pv => .inl (.inl (off (Off.trans o8 pv.1) _ _ hp))) (fun j x σ H9' H9 hj pv yv => ?_) (fun σ H9 pv => ?_)
        · obtain ⟨rfl, hx⟩ := yv
          obtain ⟨f, hf, rfl⟩ := hgs hx
          obtain ⟨o9, Z9, v4, v5, v6, v7, v10, v11, v12, rfl⟩ := pv
          have hfp := List.mem_of_getElem? hf
          have e9 : phaseZ m (ps.take j) Z f = Z f := phase_at hnd hf
          have gm := Z9.rs hfp m
          rw [e9] at gm
          refine gname (seq_asg ?_)
          refine ⟨_, rfl, _, rfl, D, _, rfl, Z9.gs hfp, ?_⟩
          refine gname (seq_st ?_)
          have skip : f = m ∨ getR (Z f).1 m = none → ZAt ps D D2 sa wa H9 (phaseZ m (ps.take (j + 1)) Z) := fun h => Z9.eq fun g _ => phase_skip hnd hf h g
          refine ⟨_, rfl, _, rfl, rfl, _, rfl, ite2 (fun e => ?_) (fun e => ?_)⟩
          · have e : f = m := V.str.inj (of_decide_eq_true e)
            exact ⟨o9, skip (.inl e), _, _, _, _, _, _, _, rfl⟩
          · have e : f ≠ m := fun z => e (decide_eq_true (by rw [z]))
            cases ha : getR (Z f).1 m with
            | none =>
              rw [ha] at gm
              exact ⟨_, rfl, _, rfl, sa f, _, rfl, gm, _, rfl, o9, skip (.inr ha), _, _, _, _, _, _, _, rfl⟩
            | some a =>
              rw [ha] at gm
              refine ⟨_, rfl, _, rfl, sa f, _, rfl, gm, _, rfl, ?_⟩
              refine ⟨_, rfl, _, rfl, sa f, _, rfl, gm, ?_⟩
              refine gname ?_
              have okf := I7.ok f hfp
              have hone := phase_one (Z := Z) hnd hf e ha
              revert hone e9 Z9
              generalize phaseZ m (ps.take j) Z = Zj
              intro Z9 e9 hone
              have k8 : ∀ {H'}, Off ps sa wa H8 H' → H' bp = some (.lst (ts.map V.ref)) ∧ PairsAt H' ts (Z m).1 := fun o => ⟨o _ _ (fun g hg => (n7 nbp g hg).1) (fun g hg => (n7 nbp g hg).2) hb8, hpr.keep fun t ht u hu => o _ _ (fun g hg => (n7 (nts t ht) g hg).1) (fun g hg => (n7 (nts t ht) g hg).2) hu⟩
              refine ⟨_, rfl, bp, rfl, ⟨_, .inl (.inl (k8 o9).1)⟩, ?_⟩
              refine for_it (walk_list (K := K) (a := bp) (xs := ts.map V.ref)) (fun k σ H' => Off ps sa wa H9 H' ∧ ZAt ps D D2 sa wa H' (setR Zj f (relaxT m a (Z m).1 k (Z f))) ∧ ∃ v5 v12, σ = [some (.ref p), some (.ref q), some (.ref D), some (.ref D2), some (.str f), v5, v6, v7, some (.str m), some (.ref bp), some (.ref (sa f)), some (.int a), v12, none]) ⟨Off.refl, Z9.eq fun g _ => ?_, _, _, rfl⟩
                (fun k σ H' _ pv => .inl (.inl (k8 (Off.trans o9 pv.1)).1)) (fun k x σ H10' H10 hk pv yv => ?_) (fun σ H10 pv => ?_)
              · rw [← e9]
                exact setR_self g
              · obtain ⟨rfl, hx⟩ := yv
                obtain ⟨o10, Z10, v5, v12, rfl⟩ := pv
                obtain ⟨ct, c, rfl, _, hc, hcell⟩ := (k8 (Off.trans o9 o10)).2.get hx
                obtain ⟨l, b⟩ := c
                have okR : RowOk ps (relaxT m a (Z m).1 k (Z f)) := relaxT_ok okf okm.s2
                have hstep := relaxT_step (m := m) (a := a) (k := Z f) hc
                revert hstep okR Z10
                generalize relaxT m a (Z m).1 k (Z f) = R
                intro Z10 okR hstep
                have gr := Z10.rs hfp l
                rw [setR_at] at gr
                have hl : l ∈ ps := okm.s2 l (List.mem_map_of_mem (f := (·.1)) (List.mem_of_getElem? hc))
                obtain ⟨q1, q2, q3, q4⟩ := Z10.put2 A hfp okR (a + b) (.inl m) (l := l)
                have gw : DGet _ D2 (.str f) (some (.ref (wa f))) := .inl ⟨outV ps wa, .inr f, .inl q2, rfl, (outV_get hfp).symm⟩
                refine ⟨ct, _, rfl, .inl (.inl hcell), rfl, _, _, rfl, _, _, rfl, rfl, ?_⟩
                have yes : better (getR R.1 l) (a + b) = true → ZAt ps D D2 sa wa _ (setR Zj f (relaxT m a (Z m).1 (k + 1) (Z f))) := fun hb => by
                  rw [hstep, oneR_yes (c := (l, b)) hb]
                  exact q3
                cases ho : getR R.1 l with
                | none =>
                  have hb : better (getR R.1 l) (a + b) = true := by rw [ho]; rfl
                  rw [ho] at gr
                  refine ⟨_, rfl, _, rfl, sa f, _, rfl, gr, _, rfl, ?_⟩
                  exact ⟨_, rfl, _, rfl, .inl ⟨_, _, rfl, rfl, _, rfl, _, rfl, sa f, _, rfl, .inl ⟨_, .inr l, Z10.s2 hfp, rfl, okR.z1 hl9, rfl⟩, _, rfl, _, rfl, _, rfl, D2, _, rfl, gw, _, rfl, wa f, _, rfl, .inl ⟨_, .inr l, q1, rfl, okR.z2 hl9, rfl⟩, Off.trans o10 q4, yes hb, _, _, rfl⟩⟩
                | some u =>
                  rw [ho] at gr
                  refine ⟨_, rfl, _, rfl, sa f, _, rfl, gr, _, rfl, ?_⟩
                  refine ⟨_, rfl, _, rfl, .inl ⟨_, _, rfl, rfl, _, rfl, _, rfl, sa f, .int u, rfl, gr, _, _, rfl, rfl, _, rfl, ite2 (fun hlt => ?_) (fun hlt => ?_)⟩⟩
                  · have hb : better (getR R.1 l) (a + b) = true := by rw [ho]; exact hlt
                    exact ⟨_, rfl, _, rfl, .inl ⟨_, _, rfl, rfl, _, rfl, _, rfl, sa f, _, rfl, .inl ⟨_, .inr l, Z10.s2 hfp, rfl, okR.z1 hl9, rfl⟩, _, rfl, _, rfl, _, rfl, D2, _, rfl, gw, _, rfl, wa f, _, rfl, .inl ⟨_, .inr l, q1, rfl, okR.z2 hl9, rfl⟩, Off.trans o10 q4, yes hb, _, _, rfl⟩⟩
                  · have hb : better (getR R.1 l) (a + b) = false := by rw [ho]; exact Bool.eq_false_iff.mpr hlt
                    refine ⟨o10, ?_, _, _, rfl⟩
                    rw [hstep, oneR_no (c := (l, b)) hb]
                    exact Z10
              · rw [List.length_map, (k8 o9).2.len, relaxT_all] at pv
                obtain ⟨o10, Z10, v5, v12, rfl⟩ := pv
                exact ⟨Off.trans o9 o10, Z10.eq fun g _ => hone g, _, _, _, _, _, _, _, rfl⟩
        · rw [List.length_map, List.take_length] at pv
          obtain ⟨o9, Z9, v4, v5, v6, v7, v10, v11, v12, rfl⟩ := pv
          refine ⟨Off.trans o8 o9, ?_, _, _, _, _, _, _, _, _, _, rfl⟩
          rw [hnext]
          exact Z9
      · rw [List.length_map] at pv
        obtain ⟨o7, Z7, v4, v5, v6, v7, v8, v9, v10, v11, v12, rfl⟩ := pv
        have s07 := off o7
        refine ⟨_, rfl, _, rfl, sz 2, fun t ht => ?_⟩
        have st : Same H7 (upd H7 t (.tup [.ref D, .ref D2])) := same_upd ht
        exact qq t D D2 sa wa _ (Same.trans s07 st) (s07.free ht) upd_same (Z7.same st)

end
end Pk

set_option Elab.async false
set_option linter.all false
set_option maxRecDepth 100000
/-! closed sums are the least sums of walks; so are sums that are found by going on along all rows, time after time -/
namespace Pu
open PySem PySem.Spec PyProof.Rows L2
/-- rows one behind another, and what they add up to -/
inductive Wk (R : Str → Str → Int → Prop) (f : Str) : Str → Int → Prop
  | nil : Wk R f f 0
  | snoc {k l : Str} {a b : Int} : Wk R f k a → R k l b → Wk R f l (a + b)
section
variable {R : Str → Str → Int → Prop}
theorem Wk.app {f k : Str} {a : Int} (h : Wk R f k a) : ∀ {l : Str} {b : Int}, Wk R k l b → Wk R f l (a + b) := by
  intro l b h2
  induction h2 with
  | nil => rw [Int.add_zero]; exact h
  | snoc _ r ih => rw [← Int.add_assoc]; exact ih.snoc r
theorem Wk.one {f l : Str} {a : Int} (h : R f l a) : Wk R f l a := by
  have := Wk.snoc (.nil (R := R) (f := f)) h
  rw [Int.zero_add] at this
  exact this
theorem Wk.nn (hR : ∀ f l a, R f l a → 0 ≤ a) {f l : Str} {w : Int} (h : Wk R f l w) : 0 ≤ w := by
  induction h with
  | nil => exact Int.le_refl _
  | snoc _ r ih => have := hR _ _ _ r; omega
theorem Wk.imp {R' : Str → Str → Int → Prop} (hR : ∀ f l a, R f l a → R' f l a) {f l : Str} {w : Int} (h : Wk R f l w) : Wk R' f l w := by
  induction h with
  | nil => exact .nil
  | snoc _ r ih => exact .snoc ih (hR _ _ _ r)
/-- the least sum -/
def Dist (R : Str → Str → Int → Prop) (f l : Str) (v : Int) : Prop := Wk R f l v ∧ ∀ w, Wk R f l w → v ≤ w
theorem Dist.uniq {f l : Str} {u v : Int} (h : Dist R f l u) (h' : Dist R f l v) : u = v := Int.le_antisymm (h.2 _ h'.1) (h'.2 _ h.1)
theorem Dist.imp {R' : Str → Str → Int → Prop} (h1 : ∀ f l a, R f l a → R' f l a) (h2 : ∀ f l a, R' f l a → R f l a) {f l : Str} {v : Int} (h : Dist R f l v) : Dist R' f l v := ⟨h.1.imp h1, fun w hw => h.2 w (hw.imp h2)⟩
end
/-! ### closed sums -/
def RowR (rs : List TRow) (f l : Str) (a : Int) : Prop := ∃ t, (f, l, a, t) ∈ rs
def SumW (R : Str → Str → Int → Prop) (ps : List Str) (Z : Str → SR × WR) : Prop := ∀ f ∈ ps, ∀ l v, sOf Z f l = some v → Wk R f l v
def SumB (ss : List TRow) (Z : Str → SR × WR) : Prop := ∀ r ∈ ss, ∃ v, sOf Z r.1 r.2.1 = some v ∧ v ≤ r.2.2.1
section
variable {R : Str → Str → Int → Prop} {ps P : List Str} {Z : Str → SR × WR}
theorem SumW.begin : SumW R ps beginZ := fun f _ l v h => by
  have h : (if f = l then some (0 : Int) else none) = some v := h
  split at h
  · rename_i e
    cases h
    rw [e]
    exact .nil
  · cases h
theorem SumW.row (h : SumW R ps Z) {r : TRow} (hr : R r.1 r.2.1 r.2.2.1) : SumW R ps (rowZ Z r) := fun f hf l v hv => by
  rcases row_key Z r f l with ⟨e1, e2, _, h1, _⟩ | ⟨h1, _⟩
  · rw [h1] at hv
    cases hv
    rw [e1, e2]
    exact .one hr
  · rw [h1] at hv
    exact h f hf l v hv
theorem SumW.phase (h : SumW R ps Z) (I : SInv ps P Z) {m : Str} (hm : m ∈ ps) : SumW R ps (phaseZ m ps Z) := fun f hf l v hv => by
  rcases phase_or I hm hf hv with hv | ⟨a, b, ha, hb, rfl⟩
  · exact h f hf l v hv
  · exact (h f hf m a ha).app (h m hm l b hb)
theorem SumB.row {ss : List TRow} (h : SumB ss Z) (r : TRow) : SumB (ss ++ [r]) (rowZ Z r) := fun x hx => by
  rcases List.mem_append.mp hx with hx | hx
  · obtain ⟨v, hv, hle⟩ := h x hx
    rcases row_key Z r x.1 x.2.1 with ⟨_, _, b, h1, _⟩ | ⟨h1, _⟩
    · rw [hv] at b
      have := better_some b
      exact ⟨_, h1, by omega⟩
    · exact ⟨v, h1.trans hv, hle⟩
  · rw [List.mem_singleton.mp hx]
    obtain ⟨f0, l0, a0, t0⟩ := r
    show ∃ v, sOf (rowZ Z (f0, l0, a0, t0)) f0 l0 = some v ∧ v ≤ a0
    by_cases b : better (getR (Z f0).1 l0) a0 = true
    · refine ⟨a0, ?_, Int.le_refl _⟩
      rw [rowZ_yes (r := (f0, l0, a0, t0)) b]
      unfold sOf
      show getR (setR Z f0 (putR (Z f0).1 l0 a0, putR (Z f0).2 l0 (.inr t0)) f0).1 l0 = _
      rw [setR_at]
      exact (getR_put ..).trans (if_pos rfl)
    · have b : better (getR (Z f0).1 l0) a0 = false := Bool.eq_false_iff.mpr b
      obtain ⟨u, hu, hle⟩ := better_none b
      refine ⟨u, ?_, hle⟩
      unfold sOf
      rw [rowZ_no (r := (f0, l0, a0, t0)) b f0]
      exact hu
theorem SumB.phase {ss : List TRow} (h : SumB ss Z) (I : SInv ps P Z) {m : Str} (hm : m ∈ ps) (hs : ∀ r ∈ ss, r.1 ∈ ps) : SumB ss (phaseZ m ps Z) := fun x hx => by
  obtain ⟨v, hv, hle⟩ := h x hx
  obtain ⟨u, hu, hl2⟩ := (phase_le I hm (hs x hx)).1 v hv
  exact ⟨u, hu, Int.le_trans hl2 hle⟩
end
theorem rows_sumB : ∀ {rs ss : List TRow} {Z : Str → SR × WR}, SumB ss Z → SumB (ss ++ rs) (rs.foldl rowZ Z)
  | [], ss, _, h => by rw [List.append_nil]; exact h
  | r :: rs, ss, Z, h => by
    have := rows_sumB (rs := rs) (h.row r)
    rw [List.append_assoc] at this
    exact this
theorem rows_sumW {R : Str → Str → Int → Prop} {ps : List Str} : ∀ {rs : List TRow} {Z : Str → SR × WR}, SumW R ps Z → (∀ r ∈ rs, R r.1 r.2.1 r.2.2.1) → SumW R ps (rs.foldl rowZ Z)
  | [], _, h, _ => h
  | r :: rs, _, h, hr => rows_sumW (rs := rs) (h.row (hr r (List.mem_cons_self ..))) fun x hx => hr x (List.mem_cons_of_mem _ hx)
theorem close_sums {R : Str → Str → Int → Prop} {ps : List Str} (nd : ps.Nodup) {rs : List TRow} {Z : Str → SR × WR} (I : SInv ps [] Z) (hs : ∀ r ∈ rs, r.1 ∈ ps) (hW : SumW R ps Z) (hB : SumB rs Z) : ∀ n, n ≤ ps.length → SumW R ps (closeZ ps n Z) ∧ SumB rs (closeZ ps n Z)
  | 0, _ => ⟨hW, hB⟩
  | n + 1, hn => by
    have hn : n < ps.length := hn
    have e : ps[n]? = some ps[n] := List.getElem?_eq_getElem hn
    obtain ⟨h1, h2⟩ := close_sums nd I hs hW hB n (Nat.le_of_lt hn)
    have J := close_inv nd I n (Nat.le_of_lt hn)
    rw [close_step e]
    exact ⟨h1.phase J (List.getElem_mem hn), h2.phase J (List.getElem_mem hn) hs⟩
theorem all_dist {ps : List Str} (nd : ps.Nodup) {rs : List TRow} (h : ∀ r ∈ rs, r.1 ∈ ps ∧ r.2.1 ∈ ps ∧ 0 ≤ r.2.2.1) {f : Str} (hf : f ∈ ps) (l : Str) (v : Int) : sOf (allZ ps rs) f l = some v ↔ Dist (RowR rs) f l v := by
  have I := all_inv nd h
  obtain ⟨hW, hB⟩ := close_sums (R := RowR rs) nd (rows_inv (begin_inv ps) h) (fun r hr => (h r hr).1) (rows_sumW SumW.begin fun r hr => ⟨r.2.2.2, hr⟩) (by
    have := rows_sumB (rs := rs) (ss := []) (Z := beginZ) (fun r hr => absurd hr List.not_mem_nil)
    exact this) ps.length (Nat.le_refl _)
  have key : ∀ {l : Str} {w : Int}, Wk (RowR rs) f l w → ∃ v, sOf (allZ ps rs) f l = some v ∧ v ≤ w := fun {l w} hw => by
    induction hw with
    | nil => exact ⟨0, I.dg f hf, Int.le_refl _⟩
    | @snoc k l a b hk r ih =>
      obtain ⟨u, hu, hle⟩ := ih
      obtain ⟨t, ht⟩ := r
      obtain ⟨u2, hu2, hle2⟩ := hB _ ht
      obtain ⟨v, hv, hl3⟩ := I.tri f hf k (mem_ps I hf hu) l u u2 hu hu2
      have hle2 : u2 ≤ b := hle2
      exact ⟨v, hv, by omega⟩
  constructor
  · intro hv
    refine ⟨hW f hf l v hv, fun w hw => ?_⟩
    obtain ⟨u, hu, hle⟩ := key hw
    have : u = v := Option.some.inj (hu.symm.trans hv)
    omega
  · intro hd
    obtain ⟨u, hu, hle⟩ := key hd.1
    have := hd.2 u (hW f hf l u hu)
    rw [hu]
    exact congrArg some (by omega)
end Pu

set_option Elab.async false
set_option linter.all false
set_option maxRecDepth 100000
/-! going on along all rows, time after time, finds the least sums -/
namespace Pu
open PySem PySem.Spec PyProof.Rows L2
abbrev LRow := Str × Str × Int
def bfStep (k : SR) (r : LRow) : SR := match getR k r.1 with
  | none => k
  | some a => if better (getR k r.2.1) (a + r.2.2) then putR k r.2.1 (a + r.2.2) else k
def bfTurn (rs : List LRow) (k : SR) : SR := rs.foldl bfStep k
def bfN (rs : List LRow) : Nat → SR → SR
  | 0, k => k
  | n + 1, k => bfTurn rs (bfN rs n k)
def bfT (rs : List LRow) (i : Nat) (k : SR) : SR := (rs.take i).foldl bfStep k
theorem bfT_all {rs : List LRow} {k : SR} : bfT rs rs.length k = bfTurn rs k := by
  unfold bfT
  rw [List.take_length]
  rfl
theorem bfT_step {rs : List LRow} {i : Nat} {k : SR} {r : LRow} (h : rs[i]? = some r) : bfT rs (i + 1) k = bfStep (bfT rs i k) r := by
  unfold bfT
  rw [List.take_add_one, h, List.foldl_append]
  rfl
def LowR (k k' : SR) : Prop := ∀ l u, getR k l = some u → ∃ v, getR k' l = some v ∧ v ≤ u
theorem LowR.refl (k : SR) : LowR k k := fun l u h => ⟨u, h, Int.le_refl _⟩
theorem LowR.trans {a b c : SR} (h1 : LowR a b) (h2 : LowR b c) : LowR a c := fun l u h => by
  obtain ⟨v, hv, hl⟩ := h1 l u h
  obtain ⟨x, hx, hl2⟩ := h2 l v hv
  exact ⟨x, hx, Int.le_trans hl2 hl⟩
theorem bfStep_get (k : SR) (r : LRow) (l : Str) : (∃ a, getR k r.1 = some a ∧ l = r.2.1 ∧ better (getR k l) (a + r.2.2) = true ∧ getR (bfStep k r) l = some (a + r.2.2)) ∨ getR (bfStep k r) l = getR k l := by
  unfold bfStep
  cases h : getR k r.1 with
  | none => exact .inr rfl
  | some a =>
    dsimp only
    by_cases b : better (getR k r.2.1) (a + r.2.2) = true
    · rw [if_pos b]
      by_cases e : l = r.2.1
      · refine .inl ⟨a, rfl, e, by rw [e]; exact b, ?_⟩
        rw [getR_put, if_pos e]
      · refine .inr ?_
        rw [getR_put, if_neg e]
    · rw [if_neg b]
      exact .inr rfl
theorem bfStep_low (k : SR) (r : LRow) : LowR k (bfStep k r) := fun l u h => by
  rcases bfStep_get k r l with ⟨a, _, _, b, h1⟩ | h1
  · rw [h] at b
    have := better_some b
    exact ⟨_, h1, by omega⟩
  · exact ⟨u, h1.trans h, Int.le_refl _⟩
theorem bfStep_hit {k : SR} {r : LRow} {a : Int} (h : getR k r.1 = some a) : ∃ v, getR (bfStep k r) r.2.1 = some v ∧ v ≤ a + r.2.2 := by
  unfold bfStep
  rw [h]
  dsimp only
  by_cases b : better (getR k r.2.1) (a + r.2.2) = true
  · rw [if_pos b]
    exact ⟨_, (getR_put ..).trans (if_pos rfl), Int.le_refl _⟩
  · rw [if_neg b]
    obtain ⟨u, hu, hl⟩ := better_none (Bool.eq_false_iff.mpr b)
    exact ⟨u, hu, hl⟩
theorem bfTurn_low : ∀ (rs : List LRow) (k : SR), LowR k (bfTurn rs k)
  | [], k => LowR.refl k
  | r :: rs, k => (bfStep_low k r).trans (bfTurn_low rs (bfStep k r))
theorem bfTurn_hit : ∀ {rs : List LRow} {k : SR} {r : LRow} {a : Int}, r ∈ rs → getR k r.1 = some a → ∃ v, getR (bfTurn rs k) r.2.1 = some v ∧ v ≤ a + r.2.2
  | x :: rs, k, r, a, hr, h => by
    rcases List.mem_cons.mp hr with e | hr
    · obtain ⟨v, hv, hl⟩ := bfStep_hit h
      rw [e] at hv
      obtain ⟨u, hu, hl2⟩ := bfTurn_low rs (bfStep k x) _ _ hv
      rw [e]
      rw [e] at hl
      exact ⟨u, hu, Int.le_trans hl2 hl⟩
    · obtain ⟨v, hv, hl⟩ := bfStep_low k x _ _ h
      obtain ⟨u, hu, hl2⟩ := bfTurn_hit (rs := rs) (k := bfStep k x) hr hv
      exact ⟨u, hu, by omega⟩
def SndV (R : Str → Str → Int → Prop) (f : Str) (k : SR) : Prop := ∀ l v, getR k l = some v → Wk R f l v
theorem SndV.turn {R : Str → Str → Int → Prop} {f : Str} : ∀ {rs : List LRow} {k : SR}, SndV R f k → (∀ r ∈ rs, R r.1 r.2.1 r.2.2) → SndV R f (bfTurn rs k)
  | [], _, h, _ => h
  | r :: rs, k, h, hr => by
    refine SndV.turn (rs := rs) (k := bfStep k r) (fun l v hv => ?_) fun x hx => hr x (List.mem_cons_of_mem _ hx)
    rcases bfStep_get k r l with ⟨a, ha, e, _, h1⟩ | h1
    · rw [h1] at hv
      cases hv
      rw [e]
      exact (h _ _ ha).snoc (hr r (List.mem_cons_self ..))
    · rw [h1] at hv
      exact h l v hv
def FinV (R : Str → Str → Int → Prop) (f : Str) (k : SR) (l : Str) : Prop := ∃ v, getR k l = some v ∧ Dist R f l v
theorem FinV.low {R : Str → Str → Int → Prop} {f : Str} {k k' : SR} {l : Str} (h : FinV R f k l) (lo : LowR k k') (s : SndV R f k') : FinV R f k' l := by
  obtain ⟨v, hv, hd⟩ := h
  obtain ⟨u, hu, hl⟩ := lo l v hv
  have := hd.2 u (s l u hu)
  have e : u = v := by omega
  exact ⟨u, hu, e ▸ hd⟩
theorem dist_ex {R : Str → Str → Int → Prop} (hR : ∀ f l a, R f l a → 0 ≤ a) {f l : Str} : ∀ (n : Nat) {w : Int}, w ≤ n → Wk R f l w → ∃ v, Dist R f l v := by
  intro n
  induction n with
  | zero =>
    intro w hn h
    exact ⟨w, h, fun u hu => by have := hu.nn hR; omega⟩
  | succ n ih =>
    intro w hn h
    by_cases z : ∃ u, Wk R f l u ∧ u < w
    · obtain ⟨u, hu, hl⟩ := z
      exact ih (by omega) hu
    · exact ⟨w, h, fun u hu => by
        by_cases y : u < w
        · exact absurd ⟨u, hu, y⟩ z
        · omega⟩
theorem filter_lt {α : Type} {p q : α → Bool} : ∀ {xs : List α}, (∀ x ∈ xs, p x = true → q x = true) → (∃ x ∈ xs, p x = false ∧ q x = true) → (xs.filter p).length < (xs.filter q).length
  | [], _, h => by obtain ⟨x, hx, _⟩ := h; cases hx
  | x :: xs, hm, h => by
    have le : (xs.filter p).length ≤ (xs.filter q).length := by
      clear h
      induction xs with
      | nil => exact Nat.le_refl _
      | cons y ys ih =>
        have ih := ih fun z hz => hm z (by
          rcases List.mem_cons.mp hz with e | hz
          · exact e ▸ List.mem_cons_self ..
          · exact List.mem_cons_of_mem _ (List.mem_cons_of_mem _ hz))
        rw [List.filter_cons, List.filter_cons]
        cases hp : p y with
        | true =>
          rw [if_pos rfl, if_pos (hm y (List.mem_cons_of_mem _ (List.mem_cons_self ..)) hp)]
          exact Nat.succ_le_succ ih
        | false =>
          rw [if_neg (by decide)]
          split
          · exact Nat.le_succ_of_le ih
          · exact ih
    rw [List.filter_cons, List.filter_cons]
    cases hp : p x with
    | true =>
      rw [if_pos rfl, if_pos (hm x (List.mem_cons_self ..) hp)]
      refine Nat.succ_lt_succ (filter_lt (fun z hz => hm z (List.mem_cons_of_mem _ hz)) ?_)
      obtain ⟨y, hy, h1, h2⟩ := h
      rcases List.mem_cons.mp hy with e | hy
      · rw [e, hp] at h1; cases h1
      · exact ⟨y, hy, h1, h2⟩
    | false =>
      rw [if_neg (by decide)]
      cases hq : q x with
      | true =>
        rw [if_pos rfl]
        exact Nat.lt_succ_of_le le
      | false =>
        rw [if_neg (by decide)]
        refine filter_lt (fun z hz => hm z (List.mem_cons_of_mem _ hz)) ?_
        obtain ⟨y, hy, h1, h2⟩ := h
        rcases List.mem_cons.mp hy with e | hy
        · rw [e, hq] at h2; cases h2
        · exact ⟨y, hy, h1, h2⟩
section
variable {ps : List Str} {rs : List LRow} {f : Str}
abbrev RowL (rs : List LRow) (f l : Str) (a : Int) : Prop := (f, l, a) ∈ rs
theorem bf_grow (h : ∀ r ∈ rs, r.1 ∈ ps ∧ r.2.1 ∈ ps ∧ 0 ≤ r.2.2) {k : SR} (s : SndV (RowL rs) f k) (hf : FinV (RowL rs) f k f) {l : Str} {w : Int} (hw : Wk (RowL rs) f l w) : (∀ u, Wk (RowL rs) f l u → w ≤ u) → ¬ FinV (RowL rs) f k l → ∃ v ∈ ps, ¬ FinV (RowL rs) f k v ∧ FinV (RowL rs) f (bfTurn rs k) v := by
  have s2 : SndV (RowL rs) f (bfTurn rs k) := s.turn fun r hr => hr
  induction hw with
  | nil => intro _ hn; exact absurd hf hn
  | @snoc m l a b hm r ih =>
    intro hmin hn
    have sub : ∀ u, Wk (RowL rs) f m u → a ≤ u := fun u hu => by
      have := hmin _ (hu.snoc r)
      omega
    by_cases z : FinV (RowL rs) f k m
    · obtain ⟨a', ha, hd⟩ := z
      have e : a' = a := hd.uniq ⟨hm, sub⟩
      rw [e] at ha
      obtain ⟨v, hv, hl⟩ := bfTurn_hit (k := k) r ha
      have hl : v ≤ a + b := hl
      have hv : getR (bfTurn rs k) l = some v := hv
      have := hmin v (s2 l v hv)
      have e2 : v = a + b := by omega
      exact ⟨l, (h _ r).2.1, hn, v, hv, e2 ▸ ⟨hm.snoc r, hmin⟩⟩
    · exact ih sub z
open Classical in
noncomputable def finC (ps : List Str) (rs : List LRow) (f : Str) (k : SR) : Nat := (ps.filter fun l => decide (FinV (RowL rs) f k l)).length
theorem bf_all (h : ∀ r ∈ rs, r.1 ∈ ps ∧ r.2.1 ∈ ps ∧ 0 ≤ r.2.2) (hf : f ∈ ps) : ∀ n, SndV (RowL rs) f (bfN rs n [(f, 0)]) ∧ FinV (RowL rs) f (bfN rs n [(f, 0)]) f ∧ ((∀ l w, Wk (RowL rs) f l w → FinV (RowL rs) f (bfN rs n [(f, 0)]) l) ∨ n + 1 ≤ finC ps rs f (bfN rs n [(f, 0)])) := by
  have nn : ∀ a b c, RowL rs a b c → 0 ≤ c := fun a b c hr => (h _ hr).2.2
  intro n
  induction n with
  | zero =>
    have g : ∀ l, getR [(f, (0 : Int))] l = if f = l then some 0 else none := fun l => rfl
    have hs : SndV (RowL rs) f [(f, 0)] := fun l v hv => by
      rw [g] at hv
      split at hv
      · rename_i e
        cases hv
        rw [← e]
        exact .nil
      · cases hv
    have hF : FinV (RowL rs) f [(f, 0)] f := ⟨0, by rw [g, if_pos rfl], .nil, fun w hw => hw.nn nn⟩
    refine ⟨hs, hF, .inr ?_⟩
    unfold finC
    have : f ∈ ps.filter fun l => @decide (FinV (RowL rs) f [(f, 0)] l) (Classical.propDecidable _) := List.mem_filter.mpr ⟨hf, @decide_eq_true _ (Classical.propDecidable _) hF⟩
    exact Nat.succ_le_of_lt (List.length_pos_of_mem this)
  | succ n ih =>
    obtain ⟨s, hF, hA⟩ := ih
    have s2 : SndV (RowL rs) f (bfTurn rs (bfN rs n [(f, 0)])) := s.turn fun r hr => hr
    have lo := bfTurn_low rs (bfN rs n [(f, 0)])
    refine ⟨s2, hF.low lo s2, ?_⟩
    by_cases z : ∀ l w, Wk (RowL rs) f l w → FinV (RowL rs) f (bfN rs n [(f, 0)]) l
    · exact .inl fun l w hw => (z l w hw).low lo s2
    · have hc := hA.resolve_left z
      refine .inr (Nat.lt_of_le_of_lt hc ?_)
      have ⟨l, z⟩ := Classical.not_forall.mp z
      have ⟨w, z⟩ := Classical.not_forall.mp z
      have ⟨hw, z⟩ := Classical.not_imp.mp z
      obtain ⟨v, hd⟩ := dist_ex nn (w.toNat) (Int.self_le_toNat w) hw
      obtain ⟨x, hx, h1, h2⟩ := bf_grow h s hF hd.1 hd.2 z
      refine filter_lt (fun y _ hy => ?_) ⟨x, hx, @decide_eq_false _ (Classical.propDecidable _) h1, @decide_eq_true _ (Classical.propDecidable _) h2⟩
      exact @decide_eq_true _ (Classical.propDecidable _) (FinV.low (@of_decide_eq_true _ (Classical.propDecidable _) hy) lo s2)
theorem bf_dist (h : ∀ r ∈ rs, r.1 ∈ ps ∧ r.2.1 ∈ ps ∧ 0 ≤ r.2.2) (hf : f ∈ ps) {n : Nat} (hn : ps.length ≤ n) (l : Str) (v : Int) : getR (bfN rs n [(f, 0)]) l = some v ↔ Dist (RowL rs) f l v := by
  obtain ⟨s, hF, hA⟩ := bf_all h hf n
  have all : ∀ l w, Wk (RowL rs) f l w → FinV (RowL rs) f (bfN rs n [(f, 0)]) l := by
    rcases hA with hA | hA
    · exact hA
    · unfold finC at hA
      have := List.length_filter_le (fun l => @decide (FinV (RowL rs) f (bfN rs n [(f, 0)]) l) (Classical.propDecidable _)) ps
      omega
  constructor
  · intro hv
    obtain ⟨u, hu, hd⟩ := all l v (s l v hv)
    have : u = v := Option.some.inj (hu.symm.trans hv)
    exact this ▸ hd
  · intro hd
    obtain ⟨u, hu, hd2⟩ := all l v hd.1
    rw [hu, hd2.uniq hd]
end
end Pu

set_option Elab.async false
set_option linter.all false
set_option maxRecDepth 100000
/-! the rows that a law goes along: keys, each once -/
namespace Pu
open PySem PySem.Spec PyProof.Rows L2
def KOk (ps : List Str) (k : SR) : Prop := (k.map (·.1)).Nodup ∧ ∀ j ∈ k.map (·.1), j ∈ ps
theorem KOk.put {ps : List Str} {k : SR} (h : KOk ps k) {l : Str} (hl : l ∈ ps) (v : Int) : KOk ps (putR k l v) :=
  ⟨putR_nd _ _ h.1, fun j hj => ((putR_keys _ _ _ _).mp hj).elim (fun e => e ▸ hl) (h.2 j)⟩
theorem KOk.step {ps : List Str} {k : SR} (h : KOk ps k) {r : LRow} (hl : r.2.1 ∈ ps) : KOk ps (bfStep k r) := by
  unfold bfStep
  split
  · exact h
  · split
    · exact h.put hl _
    · exact h
theorem KOk.fold {ps : List Str} : ∀ {rs : List LRow} {k : SR}, KOk ps k → (∀ r ∈ rs, r.2.1 ∈ ps) → KOk ps (rs.foldl bfStep k)
  | [], _, h, _ => h
  | r :: rs, _, h, hr => KOk.fold (rs := rs) (h.step (hr r (List.mem_cons_self ..))) fun x hx => hr x (List.mem_cons_of_mem _ hx)
theorem KOk.bfT {ps : List Str} {rs : List LRow} {k : SR} (h : KOk ps k) (hr : ∀ r ∈ rs, r.2.1 ∈ ps) (i : Nat) : KOk ps (bfT rs i k) := KOk.fold h fun r hx => hr r (List.mem_of_mem_take hx)
theorem KOk.bfN {ps : List Str} {rs : List LRow} {k : SR} (h : KOk ps k) (hr : ∀ r ∈ rs, r.2.1 ∈ ps) : ∀ n, KOk ps (bfN rs n k)
  | 0 => h
  | n + 1 => KOk.fold (KOk.bfN h hr n) hr
theorem KOk.begin {ps : List Str} {f : Str} (hf : f ∈ ps) : KOk ps [(f, 0)] := ⟨by simp, fun j hj => by
  have hj : j ∈ [f] := hj
  rw [List.mem_singleton.mp hj]
  exact hf⟩
theorem KOk.z {ps : List Str} {k : SR} (h : KOk ps k) (hl : ps.length ≤ 9) : (kvR V.int k).length < sizeLine := by
  rw [kvR_len]
  have := nodup_len h.1 h.2
  rw [List.length_map] at this
  exact Nat.lt_of_lt_of_le (Nat.lt_succ_of_le (Nat.le_trans this hl)) (sz 10)
theorem bfStep_none {k : SR} {r : LRow} (h : getR k r.1 = none) : bfStep k r = k := by
  unfold bfStep; rw [h]
theorem bfStep_yes {k : SR} {r : LRow} {a : Int} (h : getR k r.1 = some a) (b : better (getR k r.2.1) (a + r.2.2) = true) : bfStep k r = putR k r.2.1 (a + r.2.2) := by
  unfold bfStep; rw [h]; dsimp only; rw [if_pos b]
theorem bfStep_no {k : SR} {r : LRow} {a : Int} (h : getR k r.1 = some a) (b : better (getR k r.2.1) (a + r.2.2) = false) : bfStep k r = k := by
  unfold bfStep; rw [h]; dsimp only; rw [b, if_neg (by decide)]
end Pu

set_option Elab.async false
set_option linter.all false
set_option maxRecDepth 100000
set_option maxHeartbeats 4000000
namespace Pk
open PySem PySem.Spec PyProof.Rows L2 Pu
abbrev s_law_far : Stmt := topS 53
theorem sc_law_far : FnScope ["_law_model_here", "_law_begin", "_law_marks", "_law_cords", "_law_caps", "_law_rows", "_law_found", "_law_turn", "_law_one", "_law_other", "_law_lag_here", "_law_event"] ["_law_model_here", "_law_begin"] (defScope s_law_far) := ⟨rfl, rfl, rfl, by decide +kernel, rfl, by decide +kernel, by decide +kernel⟩

section
variable {P : Program} {w : World} {K : PySem.W.Frag} {mg : Str → Option Value} {base : Heap}
/-! ### the least sums, as the law finds them -/
def lawRows (d : PlanD) : List LRow := d.ties ++ d.caps.map (fun c => (("" : Str), c.1, c.2)) ++ d.evs.map (fun e => (e, ("" : Str), (0 : Int)))
theorem TiesAt.app {H : Hp} {as bs : List Addr} {rs ss : List LRow} (h : TiesAt H as rs) (h2 : TiesAt H bs ss) : TiesAt H (as ++ bs) (rs ++ ss) := by
  unfold TiesAt at *
  induction h with
  | nil => exact h2
  | cons r _ ih => exact .cons r ih
theorem lst_step {H3 H5 : Hp} {D T1 : Addr} {as : List Addr} {rs rs' : List LRow} {i n : Nat} {r : LRow} (hD : H3 D = none) (hD5 : H5 D = some (.lst (as.map V.ref))) (hR : TiesAt H5 as rs) (s : Same H3 H5) (hla : as.length ≤ i) (hi : i < n) (e : rs' = rs ++ [r])
    (n1 : H5 T1 = none) (h60 : n ≤ 100 := by omega) : ∃ acc, (upd H5 T1 (.tup (rowV r))) D = some (.lst acc) ∧ acc.length < sizeLine ∧
    (Same H3 (upd (upd H5 T1 (.tup (rowV r))) D (.lst (acc ++ [.ref T1]))) ∧ ∃ as', (upd (upd H5 T1 (.tup (rowV r))) D (.lst (acc ++ [.ref T1]))) D = some (.lst (as'.map V.ref)) ∧
      TiesAt (upd (upd H5 T1 (.tup (rowV r))) D (.lst (acc ++ [.ref T1]))) as' rs' ∧ as'.length ≤ i + 1) := by
  have s2 := same_upd n1 (o := .tup (rowV r))
  have hd := s2 _ _ hD5
  refine ⟨_, hd, ?_, same_put hD (Same.trans s s2), as ++ [T1], by rw [upd_same, List.map_append]; rfl, ?_, by rw [List.length_append]; show _ + 1 ≤ _; omega⟩
  · rw [List.length_map]
    exact Nat.lt_of_lt_of_le (by omega) (sz 1000)
  · rw [e]
    refine ((hR.same s2).snoc upd_same).keep fun a _ xs h => ?_
    rw [upd_ne]
    · exact h
    · intro z
      rw [z, hd] at h
      cases h
theorem capOf_nd {cs : List (Str × Int)} {c : Str × Int} (nd : (cs.map (·.1)).Nodup) (h : c ∈ cs) : capOf cs c.1 = some c.2 := by
  induction cs with
  | nil => cases h
  | cons x r ih =>
    rw [List.map_cons, List.nodup_cons] at nd
    unfold capOf
    rw [List.find?_cons]
    rcases List.mem_cons.mp h with e | h
    · rw [← e, decide_eq_true rfl]
      rfl
    · rw [decide_eq_false (fun z : x.1 = c.1 => nd.1 (z ▸ List.mem_map_of_mem (f := (·.1)) h))]
      exact ih nd.2 h
theorem lawRows_in {d : PlanD} (ok : PlanOk d) : ∀ r ∈ lawRows d, r.1 ∈ ("" : Str) :: d.evs ∧ r.2.1 ∈ ("" : Str) :: d.evs ∧ 0 ≤ r.2.2 := by
  intro r hr
  unfold lawRows at hr
  rcases List.mem_append.mp hr with hr | hr
  · rcases List.mem_append.mp hr with hr | hr
    · have := ok.tin r hr
      exact ⟨List.mem_cons_of_mem _ this.1, List.mem_cons_of_mem _ this.2.1, this.2.2⟩
    · obtain ⟨c, hc, rfl⟩ := List.mem_map.mp hr
      have := ok.cin c hc
      exact ⟨List.mem_cons_self .., List.mem_cons_of_mem _ this.1, this.2⟩
  · obtain ⟨e, he, rfl⟩ := List.mem_map.mp hr
    exact ⟨List.mem_cons_of_mem _ he, List.mem_cons_self .., Int.le_refl _⟩
theorem caps_len {d : PlanD} (ok : PlanOk d) : d.caps.length ≤ 8 := by
  have h := nodup_len ok.cnd (ys := d.evs) fun x hx => by
    obtain ⟨c, hc, rfl⟩ := List.mem_map.mp hx
    exact (ok.cin c hc).1
  rw [List.length_map] at h
  exact Nat.le_trans h ok.evs.hi
/-- a drawn model -/
def MdAt (H : Hp) (m : Addr) (d : PlanD) : Prop := ∃ (e t c : Addr) (ts : List Addr), H m = some (.lst [.ref e, .ref t, .ref c]) ∧ H e = some (.lst (d.evs.map V.str)) ∧ H t = some (.lst (ts.map V.ref)) ∧ TiesAt H ts d.ties ∧ H c = some (.dK (capsV d.caps))
def spFar : Sp := fun vs H Q _ => ∃ (m : Addr) (d : PlanD) (f : Str), vs = [.ref m, .str f] ∧ MdAt H m d ∧ PlanOk d ∧ f ∈ ("" : Str) :: d.evs ∧ ∀ q H', Same H H' → H q = none → H' q = some (.dK (kvR V.int (bfN (lawRows d) (d.evs.length + 1) [(f, 0)]))) → Q (.ref q) H'
theorem ok_far {f : Addr} {fd : FuncData} (F : Fun K "_law_far" "_law_far" s_law_far f fd) (T : Txt mg) : FnOk P w K mg base CX0 1 f fd ["_law_model_here", "_law_begin"] spFar := by
  have nd := sc_law_far.nd
  refine F.ok sc_law_far (fun vs H Q E h => ?_) (fun cdv A outer s H vs Q E hr h => ?_)
  · obtain ⟨_, _, _, rfl, _⟩ := h
    rfl
  · obtain ⟨m, d, f, rfl, ⟨e, t, c, ts, h1, h2, h3, h4, h5⟩, ok, hf, q⟩ := h
    have hu := hu_of hr
    refine ⟨_, (pss_cons (ps_asg (pv 0) (pg_unl rfl (pgs_cons (pg_name (i := 2) nd rfl (Or.inl rfl)) (pgs_cons (pg_name (i := 3) nd rfl (Or.inl rfl)) (pgs_cons (pg_name (i := 4) nd rfl (Or.inr rfl)) pgs_nil)))))
      (pss_cons (ps_set (i := 5) nd rfl (Or.inl rfl) (pe_op oAdd (pe_callTy (lstOf K) (by rfl) T.m_list PyProof.Rows.boot_list (pa_cons (pv 3) pa_nil)) (pe_lock (pe_lc (own := [("_law_event", 11)]) (g := gName 11) (tt := tYes) rfl nd (pi_keys (pv 4)) (blkOk_by (N := ["_law_model_here", "_law_begin", "_law_marks", "_law_cords", "_law_caps", "_law_rows", "_law_found", "_law_turn", "_law_one", "_law_other", "_law_lag_here", "_law_event"]) (sc := defScope s_law_far) (by decide +kernel)) (fun _ _ _ _ _ => pg_name (i := 11) nd rfl (Or.inl rfl)) (fun _ _ _ _ _ => pts_nil) (fun _ _ _ _ _ => (pe_tup (pa_cons pe_str (pa_cons (pv 11) (pa_cons (pe_dget hu (pv 4) (pv 11) (fun _ _ => rfl)) pa_nil)))))))))
      (pss_cons (ps_set (i := 5) nd rfl (Or.inl rfl) (pe_op oAdd (pv 5) (pe_lc (own := [("_law_event", 11)]) (g := gName 11) (tt := tYes) rfl nd (pi_list (pv 2)) (blkOk_by (N := ["_law_model_here", "_law_begin", "_law_marks", "_law_cords", "_law_caps", "_law_rows", "_law_found", "_law_turn", "_law_one", "_law_other", "_law_lag_here", "_law_event"]) (sc := defScope s_law_far) (by decide +kernel)) (fun _ _ _ _ _ => pg_name (i := 11) nd rfl (Or.inl rfl)) (fun _ _ _ _ _ => pts_nil) (fun _ _ _ _ _ => (pe_tup (pa_cons (pv 11) (pa_cons pe_str (pa_cons pe_int pa_nil))))))))
      (pss_cons (ps_set (i := 6) nd rfl (Or.inl rfl) (pe_disp (pps_cons (pv 1) pe_int pps_nil) (by rfl) (by rfl) (by simp) (by decide)))
      (pss_cons (ps_for PassesOwn.never rfl (pi_range1 rfl T.m_range (pa_cons (pe_op oAdd (pe_callB (lenK K) (by rfl) T.m_len PySem.boot_len (pa_cons (pv 2) pa_nil)) pe_int) pa_nil)) (pg_name (i := 7) nd rfl (Or.inl rfl))
      (pss_one (ps_for PassesOwn.never rfl (pi_list (pv 5)) (pg_tup rfl (pgs_cons (pg_name (i := 8) nd rfl (Or.inl rfl)) (pgs_cons (pg_name (i := 9) nd rfl (Or.inl rfl)) (pgs_cons (pg_name (i := 10) nd rfl (Or.inl rfl)) pgs_nil))))
      (pss_cons (ps_if (pt_cmp (pc_dnotin hu (pv 8) (pv 6)) (by rfl))
      (pss_one ps_continue) pss_nil)
      (pss_one (ps_if (PW.pt (pw_or (pt_cmp (pc_dnotin hu (pv 9) (pv 6)) (by rfl)) (pw_or1 (pt_cmpR op_lt (pe_op oAdd (pe_dget hu (pv 6) (pv 8) (fun _ _ => rfl)) (pv 10)) (pe_dget hu (pv 6) (pv 9) (fun _ _ => rfl)) (by rfl)))))
      (pss_one (ps_dput hu (pv 6) (pv 9) (pe_op oAdd (pe_dget hu (pv 6) (pv 8) (fun _ _ => rfl)) (pv 10)) rfl)) pss_nil))))))
      (pss_one (ps_ret (pv 6)))))))), ?_⟩
    have hl8 := ok.evs.hi
    have ht60 := ok.tl
    have hc8 := caps_len ok
    refine seq_asg ?_
    refine ⟨_, rfl, m, _, rfl, .inl (.inl h1), rfl, _, _, rfl, _, _, rfl, _, _, rfl, rfl, ?_⟩
    refine ⟨_, rfl, t, _, rfl, .inl (.inl (.inl h3)), fun l1 n1 => ?_⟩
    have s1 := same_upd n1 (o := .lst (ts.map V.ref))
    have k1 : (upd H l1 (.lst (ts.map V.ref))) l1 = some (.lst (ts.map V.ref)) := upd_same
    revert s1 k1
    generalize upd H l1 (.lst (ts.map V.ref)) = H1
    intro s1 k1
    have hc1 := s1 _ _ h5
    refine ⟨c, _, hc1, True.intro, fun od => ?_⟩
    have hL : (upd H1 c (.frz od (.dK (capsV d.caps)))) c = some (.frz od (.dK (capsV d.caps))) := upd_same
    have unl : ∀ {H'}, Same (upd H1 c (.frz od (.dK (capsV d.caps)))) H' → Same H1 (upd H' c (.dK (capsV d.caps))) := fun s => unlock_same hc1 s
    have fr : ∀ {b}, (upd H1 c (.frz od (.dK (capsV d.caps)))) b = none → H1 b = none ∧ b ≠ c := fun {b} hb => by
      have : b ≠ c := fun z => by rw [z, hL] at hb; cases hb
      rw [upd_ne this] at hb
      exact ⟨hb, this⟩
    revert hL unl fr
    generalize upd H1 c (.frz od (.dK (capsV d.caps))) = H2
    intro hL unl fr
    refine ⟨_, rfl, c, od, rfl, .inl ⟨_, hL, fun D hD => ?_⟩⟩
    refine lc_it (walk_keys (d := c) (o := od) (kvs := capsV d.caps)) (fun i H' => Same H2 H' ∧ ∃ as, H' D = some (.lst (as.map V.ref)) ∧ TiesAt H' as ((d.caps.take i).map fun c => (("" : Str), c.1, c.2)) ∧ as.length ≤ i) ⟨same_upd hD, [], upd_same, .nil, Nat.le_refl _⟩ (fun i H' _ pv => pv.1 _ _ hL) (fun i x H4 H5 hi pv yv => ?_) (fun H4 pv => ?_)
    · obtain ⟨rfl, k, v, hk, rfl⟩ := yv
      obtain ⟨s4, as, hD4, hR4, hla⟩ := pv
      have hlen : (capsV d.caps).length = d.caps.length := List.length_map ..
      rw [hlen] at hi
      have hci : d.caps[i]? = some d.caps[i] := List.getElem?_eq_getElem hi
      have hk2 : (capsV d.caps)[i]? = some (.inr d.caps[i].1, .int d.caps[i].2) := by
        unfold capsV
        rw [List.getElem?_map, hci]
        rfl
      rw [hk2] at hk
      cases hk
      have hg : valV (capsV d.caps) (.inr d.caps[i].1) = some (.int d.caps[i].2) := by
        rw [valV_capOf, capOf_nd ok.cnd (List.getElem_mem hi)]
        rfl
      refine ⟨rfl, _, rfl, _, rfl, _, rfl, c, _, rfl, .inl ⟨capsV d.caps, .inr d.caps[i].1, .inr ⟨od, s4 _ _ hL⟩, rfl, hg.symm⟩, sz 3, fun T1 nT1 => ?_⟩
      exact lst_step (r := (("" : Str), d.caps[i].1, d.caps[i].2)) hD hD4 hR4 s4 hla hi (by rw [List.take_add_one, hci, List.map_append]; rfl) nT1
    · obtain ⟨s4, as, hD4, hR4, hla⟩ := pv
      have hlen : (capsV d.caps).length = d.caps.length := List.length_map ..
      rw [hlen, List.take_length] at hR4
      rw [hlen] at hla
      have hDc : D ≠ c := (fr hD).2
      have s15 := unl s4
      have kD : (upd H4 c (.dK (capsV d.caps))) D = some (.lst (as.map V.ref)) := by rw [upd_ne hDc]; exact hD4
      have hR5 : TiesAt (upd H4 c (.dK (capsV d.caps))) as (d.caps.map fun c => (("" : Str), c.1, c.2)) := hR4.keep fun a _ xs h => by
        rw [upd_ne]
        · exact h
        · intro z
          rw [z, s4 _ _ hL] at h
          cases h
      refine ⟨s4 _ _ hL, ?_⟩
      revert s15 kD hR5
      generalize upd H4 c (.dK (capsV d.caps)) = H5
      intro s15 kD hR5
      have s05 := Same.trans s1 s15
      clear hR4 hD4 s4 hL fr unl
      refine .inr (.inr ⟨l1, D, _, _, rfl, rfl, s15 _ _ k1, kD, ?_, fun p np => ?_⟩)
      · rw [List.length_map, List.length_map, h4.length]
        exact Nat.le_trans (by omega) (sz 100)
      have s6 := same_upd np (o := .lst (ts.map V.ref ++ as.map V.ref))
      have kp : (upd H5 p (.lst (ts.map V.ref ++ as.map V.ref))) p = some (.lst ((ts ++ as).map V.ref)) := by rw [upd_same, List.map_append]
      have hT6 := ((h4.same s05).app hR5).same s6
      have s06 := Same.trans s05 s6
      revert kp hT6 s06
      generalize upd H5 p (.lst (ts.map V.ref ++ as.map V.ref)) = H6
      intro kp hT6 s06
      clear kD hR5 s15 s05 s6 np
      refine gname ?_
      refine ⟨_, rfl, _, rfl, e, rfl, ⟨_, .inl (.inl (s06 _ _ h2))⟩, fun D2 hD2 => ?_⟩
      refine lc_it (walk_list (K := K) (a := e) (xs := d.evs.map V.str)) (fun i H' => Same H6 H' ∧ ∃ as, H' D2 = some (.lst (as.map V.ref)) ∧ TiesAt H' as ((d.evs.take i).map fun g => (g, ("" : Str), (0 : Int))) ∧ as.length ≤ i) ⟨same_upd hD2, [], upd_same, .nil, Nat.le_refl _⟩ (fun i H' _ pv => .inl (.inl (pv.1 _ _ (s06 _ _ h2)))) (fun i x H7 H8 hi pv yv => ?_) (fun H7 pv => ?_)
      · obtain ⟨rfl, hx⟩ := yv
        obtain ⟨g, hg, rfl⟩ := strs_get hx
        obtain ⟨s7, bs, hD7, hR7, hlb⟩ := pv
        rw [List.length_map] at hi
        refine ⟨rfl, _, rfl, sz 3, fun T1 nT1 => ?_⟩
        exact lst_step (r := (g, ("" : Str), (0 : Int))) hD2 hD7 hR7 s7 hlb hi (by rw [List.take_add_one, hg, List.map_append]; rfl) nT1
      · obtain ⟨s7, bs, hD7, hR7, hlb⟩ := pv
        rw [List.length_map, List.take_length] at hR7
        rw [List.length_map] at hlb
        refine .inr (.inr ⟨p, D2, _, _, rfl, rfl, s7 _ _ kp, hD7, ?_, fun R nR => ?_⟩)
        · rw [List.length_map, List.length_map, List.length_append, h4.length]
          exact Nat.le_trans (by omega) (sz 100)
        have s8 := same_upd nR (o := .lst ((ts ++ as).map V.ref ++ bs.map V.ref))
        have kR : (upd H7 R (.lst ((ts ++ as).map V.ref ++ bs.map V.ref))) R = some (.lst (((ts ++ as) ++ bs).map V.ref)) := by rw [upd_same, List.map_append (l₁ := ts ++ as)]
        have hT8 : TiesAt _ ((ts ++ as) ++ bs) (lawRows d) := ((hT6.same s7).app hR7).same s8
        have s08 := Same.trans s06 (Same.trans s7 s8)
        revert kR hT8 s08
        generalize upd H7 R (.lst ((ts ++ as).map V.ref ++ bs.map V.ref)) = H8
        generalize (ts ++ as) ++ bs = rows
        intro kR hT8 s08
        clear hT6 hR7 hD7 s7 s8 kp s06
        have hin := lawRows_in ok
        revert hT8 hin q
        generalize lawRows d = rs
        intro q hT8 hin
        refine gname ?_
        refine fun q0 nq => ⟨_, rfl, upd_same, [(.inr f, .int 0)], rfl, by show 1 ≤ 15; decide, ?_⟩
        have s9 : Ext q0 H8 (upd (upd H8 q0 (.dK [])) q0 (.dK (mergeK [] [(.inr f, .int 0)]))) := fun b o hb h => by
          rw [upd_ne hb, upd_ne hb]
          exact h
        have kq : (upd (upd H8 q0 (.dK [])) q0 (.dK (mergeK [] [(.inr f, .int 0)]))) q0 = some (.dK (kvR V.int [(f, 0)])) := upd_same
        revert s9 kq
        generalize upd (upd H8 q0 (.dK [])) q0 (.dK (mergeK [] [(.inr f, .int 0)])) = H9
        intro s9 kq
        have nm := s08 _ _ h2
        refine gname ?_
        refine ⟨_, rfl, .inl ⟨e, _, rfl, .inl (.inl (.inl (s9 _ _ (ne_of_none nm nq) nm))), .inl ⟨_, _, rfl, rfl, _, rfl, ?_, ?_, ?_⟩⟩⟩
        · rw [List.length_map]; exact Int.le_trans (by decide : -(2 : Int) ^ 62 ≤ 0) (by omega)
        · rw [List.length_map]; exact Int.lt_of_le_of_lt (by omega : ((d.evs.length : Nat) : Int) + 1 ≤ 9) (by decide)
        have key : ∀ {H'}, Ext q0 H8 H' → H' R = some (.lst (rows.map V.ref)) ∧ TiesAt H' rows rs := fun x => ⟨x _ _ (ne_of_none kR nq) kR, hT8.keep fun a _ xs h => x _ _ (ne_of_none h nq) h⟩
        have k0 : KOk (("" : Str) :: d.evs) [(f, 0)] := KOk.begin hf
        have l9 : (("" : Str) :: d.evs).length ≤ 9 := by rw [List.length_cons]; omega
        have hrl : ∀ r ∈ rs, r.2.1 ∈ ("" : Str) :: d.evs := fun r hr => (hin r hr).2.1
        refine for_range (fun i σ H' => Ext q0 H8 H' ∧ H' q0 = some (.dK (kvR V.int (bfN rs i [(f, 0)]))) ∧ ∃ v7 v8 v9 v10 v11, σ = [some (.ref m), some (.str f), some (.ref e), some (.ref t), some (.ref c), some (.ref R), some (.ref q0), v7, v8, v9, v10, v11]) ⟨s9, kq, _, _, _, _, _, rfl⟩ (fun i σ H10 hi pv => ?_) (fun σ H10 pv => ?_)
        · obtain ⟨x10, kq10, v7, v8, v9, v10, v11, rfl⟩ := pv
          have kn : KOk (("" : Str) :: d.evs) (bfN rs i [(f, 0)]) := k0.bfN hrl i
          have hnext : bfN rs (i + 1) [(f, 0)] = bfTurn rs (bfN rs i [(f, 0)]) := rfl
          revert kq10 kn hnext
          generalize bfN rs i [(f, 0)] = k
          intro kq10 kn hnext
          refine gname ?_
          refine ⟨_, rfl, R, rfl, ⟨_, .inl (.inl (key x10).1)⟩, ?_⟩
          refine for_it (walk_list (K := K) (a := R) (xs := rows.map V.ref)) (fun j σ H' => Ext q0 H8 H' ∧ H' q0 = some (.dK (kvR V.int (bfT rs j k))) ∧ ∃ v7 v8 v9 v10 v11, σ = [some (.ref m), some (.str f), some (.ref e), some (.ref t), some (.ref c), some (.ref R), some (.ref q0), v7, v8, v9, v10, v11]) ⟨x10, kq10, _, _, _, _, _, rfl⟩
            (fun j σ H' _ pv => .inl (.inl (key pv.1).1)) (fun j x σ H11' H11 hj pv yv => ?_) (fun σ H11 pv => ?_)
          · obtain ⟨rfl, hx⟩ := yv
            obtain ⟨x11, kq11, v7, v8, v9, v10, v11, rfl⟩ := pv
            obtain ⟨ct, r, rfl, hmem, hget, hcell⟩ := (key x11).2.get hx
            have kj : KOk (("" : Str) :: d.evs) (bfT rs j k) := kn.bfT hrl j
            have hstep := bfT_step (k := k) hget
            revert kq11 kj hstep
            generalize bfT rs j k = kk
            intro kq11 kj hstep
            obtain ⟨one, other, lag⟩ := r
            have dg : ∀ l : Str, DGet H11 q0 (.str l) ((getR kk l).map V.int) := fun l => .inl ⟨kvR V.int _, .inr l, .inl kq11, rfl, (valV_kvR ..).symm⟩
            refine ⟨ct, _, rfl, .inl (.inl hcell), rfl, _, _, rfl, _, _, rfl, _, _, rfl, rfl, ?_⟩
            have d1 := dg one
            have d2 := dg other
            cases h1 : getR kk one with
            | none =>
              rw [h1] at d1
              refine ⟨_, rfl, _, rfl, q0, _, rfl, d1, _, rfl, x11, ?_, _, _, _, _, _, rfl⟩
              rw [hstep, bfStep_none (r := (one, other, lag)) h1]
              exact kq11
            | some a =>
              rw [h1] at d1
              refine ⟨_, rfl, _, rfl, q0, _, rfl, d1, _, rfl, ?_⟩
              have x12 : Ext q0 H8 (upd H11 q0 (.dK (putK (kvR V.int kk) (.inr other) (.int (a + lag))))) := fun b o hb h => by
                rw [upd_ne hb]
                exact x11 b o hb h
              cases h2 : getR kk other with
              | none =>
                rw [h2] at d2
                have hb : better (getR kk other) (a + lag) = true := by rw [h2]; rfl
                refine ⟨_, rfl, _, rfl, q0, _, rfl, d2, _, rfl, ?_⟩
                refine ⟨_, rfl, _, rfl, q0, .int a, rfl, d1, _, rfl, .inl ⟨_, _, rfl, rfl, _, rfl, _, rfl, q0, _, rfl, .inl ⟨_, .inr other, kq11, rfl, kj.z l9, rfl⟩, x12, ?_, _, _, _, _, _, rfl⟩⟩
                rw [hstep, bfStep_yes (r := (one, other, lag)) h1 hb, upd_same, putK_kvR V.int kj.1]
              | some u =>
                rw [h2] at d2
                refine ⟨_, rfl, _, rfl, q0, _, rfl, d2, _, rfl, ?_⟩
                refine ⟨_, rfl, _, rfl, q0, .int a, rfl, d1, _, rfl, .inl ⟨_, _, rfl, rfl, _, rfl, _, rfl, q0, .int u, rfl, d2, _, _, rfl, rfl, _, rfl, ite2 (fun hlt => ?_) (fun hlt => ?_)⟩⟩
                · have hb : better (getR kk other) (a + lag) = true := by rw [h2]; exact hlt
                  refine ⟨_, rfl, _, rfl, q0, .int a, rfl, d1, _, rfl, .inl ⟨_, _, rfl, rfl, _, rfl, _, rfl, q0, _, rfl, .inl ⟨_, .inr other, kq11, rfl, kj.z l9, rfl⟩, x12, ?_, _, _, _, _, _, rfl⟩⟩
                  rw [hstep, bfStep_yes (r := (one, other, lag)) h1 hb, upd_same, putK_kvR V.int kj.1]
                · have hb : better (getR kk other) (a + lag) = false := by rw [h2]; exact Bool.eq_false_iff.mpr hlt
                  refine ⟨x11, ?_, _, _, _, _, _, rfl⟩
                  rw [hstep, bfStep_no (r := (one, other, lag)) h1 hb]
                  exact kq11
          · obtain ⟨x11, kq11, v7, v8, v9, v10, v11, rfl⟩ := pv
            refine ⟨x11, ?_, _, _, _, _, _, rfl⟩
            rw [hnext, ← bfT_all]
            rw [List.length_map, hT8.length] at kq11
            exact kq11
        · obtain ⟨x10, kq10, v7, v8, v9, v10, v11, rfl⟩ := pv
          rw [List.length_map, show (((d.evs.length : Nat) : Int) + 1).toNat = d.evs.length + 1 by omega] at kq10
          exact ⟨_, rfl, q q0 H10 (fun b o h => x10 _ _ (ne_of_none (s08 _ _ h) nq) (s08 _ _ h)) (s08.free nq) kq10⟩

end
end Pk

set_option Elab.async false
set_option linter.all false
set_option maxRecDepth 100000
/-! what events wait for; groups of events that keep together -/
namespace Pu
open PySem PySem.Spec PyProof.Rows L2
/-- a is e, or e waits for a -/
inductive Tr (ties : List LRow) : Str → Str → Prop
  | nil {e : Str} : Tr ties e e
  | step {a b e : Str} {n : Int} : (a, b, n) ∈ ties → Tr ties b e → Tr ties a e
theorem Tr.app {ties : List LRow} {a b c : Str} (h : Tr ties a b) (h2 : Tr ties b c) : Tr ties a c := by
  induction h with
  | nil => exact h2
  | step t _ ih => exact .step t (ih h2)
def ClR (ties : List LRow) (some : List Str) (a : Str) : Prop := ∃ e ∈ some, Tr ties a e
theorem ClR.step {ties : List LRow} {some : List Str} {t : LRow} (ht : t ∈ ties) (h : ClR ties some t.2.1) : ClR ties some t.1 := by
  obtain ⟨e, he, hr⟩ := h
  exact ⟨e, he, .step (n := t.2.2) ht hr⟩
theorem tr_cross {ties : List LRow} {S : List Str} {a e : Str} (h : Tr ties a e) : e ∈ S → a ∉ S → ∃ t ∈ ties, t.2.1 ∈ S ∧ t.1 ∉ S := by
  induction h with
  | nil => intro h1 h2; exact absurd h1 h2
  | @step a b e n ht _ ih =>
    intro h1 h2
    by_cases z : b ∈ S
    · exact ⟨_, ht, z, h2⟩
    · exact ih h1 z
theorem tr_in {ties : List LRow} {evs : List Str} (hin : ∀ t ∈ ties, t.1 ∈ evs) {a e : Str} (h : Tr ties a e) : e ∈ evs → a ∈ evs := by
  cases h with
  | nil => exact id
  | step ht _ => exact fun _ => hin _ ht
theorem filter_full {α : Type} {p : α → Bool} {xs : List α} (h : xs.length ≤ (xs.filter p).length) : ∀ x ∈ xs, p x = true := by
  have e := List.filter_sublist (p := p) (l := xs)
  have := e.eq_of_length_le h
  intro x hx
  rw [← this] at hx
  exact (List.mem_filter.mp hx).2
theorem cl_turns {ties : List LRow} {evs some : List Str} (hin : ∀ t ∈ ties, t.1 ∈ evs) (hs : ∀ e ∈ some, e ∈ evs) (S : Nat → List Str) (h0 : ∀ a ∈ some, a ∈ S 0) (mono : ∀ k a, a ∈ S k → a ∈ S (k + 1))
    (hit : ∀ k t, t ∈ ties → t.2.1 ∈ S k → t.1 ∈ S (k + 1)) (snd : ∀ k a, a ∈ S k → ClR ties some a) (n : Nat) (hn : evs.length ≤ n) (a : Str) : a ∈ S n ↔ ClR ties some a := by
  have base : ∀ k, ∀ a ∈ some, a ∈ S k := fun k => by
    induction k with
    | zero => exact h0
    | succ k ih => exact fun a ha => mono k a (ih a ha)
  have key : ∀ k, (∀ a, ClR ties some a → a ∈ S k) ∨ k ≤ (evs.filter fun e => decide (e ∈ S k)).length := fun k => by
    induction k with
    | zero => exact .inr (Nat.zero_le _)
    | succ k ih =>
      by_cases z : ∀ a, ClR ties some a → a ∈ S k
      · exact .inl fun a ha => mono k a (z a ha)
      · have hc := ih.resolve_left z
        have ⟨a, z⟩ := Classical.not_forall.mp z
        have ⟨ha, z⟩ := Classical.not_imp.mp z
        obtain ⟨e, he, hr⟩ := ha
        obtain ⟨t, ht, h1, h2⟩ := tr_cross hr (base k e he) z
        refine .inr (Nat.lt_of_le_of_lt hc (filter_lt (fun y _ hy => ?_) ⟨t.1, hin t ht, decide_eq_false h2, decide_eq_true (hit k t ht h1)⟩))
        exact decide_eq_true (mono k y (of_decide_eq_true hy))
  refine ⟨snd n a, fun h => ?_⟩
  rcases key n with k | k
  · exact k a h
  · obtain ⟨e, he, hr⟩ := h
    exact of_decide_eq_true (filter_full (Nat.le_trans hn k) a (tr_in hin hr (hs e he)))
/-! the law's turns -/
def lawStep (ties : List LRow) (S : List Str) : List Str := S ++ (ties.filter fun t => decide (t.2.1 ∈ S)).map (·.1)
def lawCl (ties : List LRow) (S : List Str) : Nat → List Str
  | 0 => S
  | n + 1 => lawStep ties (lawCl ties S n)
theorem lawStep_mem {ties : List LRow} {S : List Str} {a : Str} : a ∈ lawStep ties S ↔ a ∈ S ∨ ∃ t ∈ ties, t.2.1 ∈ S ∧ a = t.1 := by
  unfold lawStep
  rw [List.mem_append, List.mem_map]
  refine or_congr Iff.rfl ⟨?_, ?_⟩
  · rintro ⟨t, ht, rfl⟩
    obtain ⟨h1, h2⟩ := List.mem_filter.mp ht
    exact ⟨t, h1, of_decide_eq_true h2, rfl⟩
  · rintro ⟨t, h1, h2, rfl⟩
    exact ⟨t, List.mem_filter.mpr ⟨h1, decide_eq_true h2⟩, rfl⟩
theorem lawCl_len {ties : List LRow} {S : List Str} : ∀ n, (lawCl ties S n).length ≤ S.length + n * ties.length
  | 0 => by rw [Nat.zero_mul]; exact Nat.le_refl _
  | n + 1 => by
    have ih := lawCl_len (ties := ties) (S := S) n
    have h := List.length_filter_le (fun t : LRow => decide (t.2.1 ∈ lawCl ties S n)) ties
    show (lawStep ties (lawCl ties S n)).length ≤ _
    unfold lawStep
    rw [List.length_append, List.length_map, Nat.succ_mul]
    omega
theorem lawCl_iff {ties : List LRow} {evs some : List Str} (hin : ∀ t ∈ ties, t.1 ∈ evs) (hs : ∀ e ∈ some, e ∈ evs) (n : Nat) (hn : evs.length ≤ n) (a : Str) : a ∈ lawCl ties some n ↔ ClR ties some a := by
  refine cl_turns hin hs (lawCl ties some) (fun a h => h) (fun k a h => lawStep_mem.mpr (.inl h)) (fun k t ht h => lawStep_mem.mpr (.inr ⟨t, ht, h, rfl⟩)) (fun k => ?_) n hn a
  induction k with
  | zero => exact fun a h => ⟨a, h, .nil⟩
  | succ k ih =>
    intro a h
    rcases lawStep_mem.mp h with h | ⟨t, ht, h1, rfl⟩
    · exact ih a h
    · exact ClR.step ht (ih _ h1)
/-! the program's turns: a dict of marks -/
def addK (ks : List Str) (a : Str) : List Str := if a ∈ ks then ks else ks ++ [a]
theorem addK_mem {ks : List Str} {a x : Str} : x ∈ addK ks a ↔ x ∈ ks ∨ x = a := by
  unfold addK
  split
  · rename_i h
    exact ⟨.inl, fun z => z.elim id fun e => e ▸ h⟩
  · rw [List.mem_append, List.mem_singleton]
theorem addK_nd {ks : List Str} {a : Str} (h : ks.Nodup) : (addK ks a).Nodup := by
  unfold addK
  split
  · exact h
  · rename_i n
    rw [List.nodup_append]
    exact ⟨h, by simp, fun x hx y hy e => n (by rw [List.mem_singleton] at hy; rw [← hy, ← e]; exact hx)⟩
def markStep (ks : List Str) (t : LRow) : List Str := if t.2.1 ∈ ks then addK ks t.1 else ks
def markTurn (ties : List LRow) (ks : List Str) : List Str := ties.foldl markStep ks
def markT (ties : List LRow) (i : Nat) (ks : List Str) : List Str := (ties.take i).foldl markStep ks
def markN (ties : List LRow) (ks : List Str) : Nat → List Str
  | 0 => ks
  | n + 1 => markTurn ties (markN ties ks n)
theorem markT_all {ties : List LRow} {ks : List Str} : markT ties ties.length ks = markTurn ties ks := by
  unfold markT
  rw [List.take_length]
  rfl
theorem markT_step {ties : List LRow} {i : Nat} {ks : List Str} {t : LRow} (h : ties[i]? = some t) : markT ties (i + 1) ks = markStep (markT ties i ks) t := by
  unfold markT
  rw [List.take_add_one, h, List.foldl_append]
  rfl
theorem markStep_le {ks : List Str} {t : LRow} {a : Str} (h : a ∈ ks) : a ∈ markStep ks t := by
  unfold markStep
  split
  · exact addK_mem.mpr (.inl h)
  · exact h
theorem markTurn_le : ∀ {ties : List LRow} {ks : List Str} {a : Str}, a ∈ ks → a ∈ markTurn ties ks
  | [], _, _, h => h
  | t :: ts, ks, a, h => markTurn_le (ties := ts) (markStep_le h)
theorem markTurn_hit : ∀ {ties : List LRow} {ks : List Str} {t : LRow}, t ∈ ties → t.2.1 ∈ ks → t.1 ∈ markTurn ties ks
  | x :: ts, ks, t, h, hk => by
    rcases List.mem_cons.mp h with e | h
    · refine markTurn_le (ties := ts) ?_
      rw [← e]
      unfold markStep
      rw [if_pos hk]
      exact addK_mem.mpr (.inr rfl)
    · exact markTurn_hit (ties := ts) h (markStep_le hk)
theorem markT_snd {ties all : List LRow} {some : List Str} : ∀ {ks : List Str}, (∀ t ∈ ties, t ∈ all) → (∀ a ∈ ks, ClR all some a) → ∀ a ∈ ties.foldl markStep ks, ClR all some a := by
  induction ties with
  | nil => exact fun _ h => h
  | cons t ts ih =>
    intro ks ht h
    refine ih (fun x hx => ht x (List.mem_cons_of_mem _ hx)) fun a ha => ?_
    unfold markStep at ha
    split at ha
    · rename_i hk
      rcases addK_mem.mp ha with ha | rfl
      · exact h a ha
      · exact ClR.step (ht t (List.mem_cons_self ..)) (h _ hk)
    · exact h a ha
theorem markN_iff {ties : List LRow} {evs some ks : List Str} (hin : ∀ t ∈ ties, t.1 ∈ evs) (hs : ∀ e ∈ some, e ∈ evs) (hk : ∀ a, a ∈ ks ↔ a ∈ some) (n : Nat) (hn : evs.length ≤ n) (a : Str) : a ∈ markN ties ks n ↔ ClR ties some a := by
  refine cl_turns hin hs (markN ties ks) (fun a h => (hk a).mpr h) (fun k a h => markTurn_le h) (fun k t ht h => markTurn_hit ht h) (fun k => ?_) n hn a
  induction k with
  | zero => exact fun a h => ⟨a, (hk a).mp h, .nil⟩
  | succ k ih => exact markT_snd (fun _ h => h) ih
theorem mark_nd {ties : List LRow} : ∀ {ks : List Str}, ks.Nodup → (ties.foldl markStep ks).Nodup := by
  induction ties with
  | nil => exact fun h => h
  | cons t ts ih =>
    intro ks h
    refine ih ?_
    unfold markStep
    split
    · exact addK_nd h
    · exact h
theorem mark_in {ties : List LRow} {evs : List Str} : ∀ {ks : List Str}, (∀ t ∈ ties, t.1 ∈ evs) → (∀ a ∈ ks, a ∈ evs) → ∀ a ∈ ties.foldl markStep ks, a ∈ evs := by
  induction ties with
  | nil => exact fun _ h => h
  | cons t ts ih =>
    intro ks hin h
    refine ih (fun x hx => hin x (List.mem_cons_of_mem _ hx)) fun a ha => ?_
    unfold markStep at ha
    split at ha
    · rcases addK_mem.mp ha with ha | rfl
      · exact h a ha
      · exact hin t (List.mem_cons_self ..)
    · exact h a ha
/-! ### groups -/
def grpAdd (m : Str → Bool) (x : Str) : List (List Str) → List (List Str)
  | [] => [[x]]
  | r :: rs => if m (r.headD "") = true then (r ++ [x]) :: rs else r :: grpAdd m x rs
theorem grpAdd_none {m : Str → Bool} {x : Str} : ∀ {rs : List (List Str)}, (∀ r ∈ rs, m (r.headD "") = false) → grpAdd m x rs = rs ++ [[x]]
  | [], _ => rfl
  | r :: rs, h => by
    unfold grpAdd
    rw [h r (List.mem_cons_self ..), if_neg (by decide), grpAdd_none fun y hy => h y (List.mem_cons_of_mem _ hy)]
    rfl
theorem grpAdd_at {m : Str → Bool} {x : Str} : ∀ {a : List (List Str)} {r : List Str} {b : List (List Str)}, (∀ y ∈ a, m (y.headD "") = false) → m (r.headD "") = true → grpAdd m x (a ++ r :: b) = a ++ (r ++ [x]) :: b
  | [], r, b, _, h => by
    show grpAdd m x (r :: b) = _
    unfold grpAdd
    rw [if_pos h]
    rfl
  | y :: a, r, b, h, hr => by
    show grpAdd m x (y :: (a ++ r :: b)) = _
    unfold grpAdd
    rw [h y (List.mem_cons_self ..), if_neg (by decide), grpAdd_at (fun z hz => h z (List.mem_cons_of_mem _ hz)) hr]
    rfl
theorem grpAdd_size {m : Str → Bool} {x : Str} : ∀ {rs : List (List Str)}, (grpAdd m x rs).flatten.length = rs.flatten.length + 1
  | [] => rfl
  | r :: rs => by
    unfold grpAdd
    split
    · rw [List.flatten_cons, List.flatten_cons, List.length_append, List.length_append, List.length_append]
      show r.length + 1 + _ = _
      omega
    · rw [List.flatten_cons, List.flatten_cons, List.length_append, List.length_append, grpAdd_size (rs := rs)]
      omega
theorem grpAdd_all {m : Str → Bool} {x : Str} {p : List Str → Prop} (h1 : p [x]) (h2 : ∀ r, p r → p (r ++ [x])) : ∀ {rs : List (List Str)}, (∀ r ∈ rs, p r) → ∀ r ∈ grpAdd m x rs, p r
  | [], _, r, hr => by rw [List.mem_singleton.mp hr]; exact h1
  | y :: rs, h, r, hr => by
    unfold grpAdd at hr
    split at hr
    · rcases List.mem_cons.mp hr with rfl | hr
      · exact h2 y (h y (List.mem_cons_self ..))
      · exact h r (List.mem_cons_of_mem _ hr)
    · rcases List.mem_cons.mp hr with rfl | hr
      · exact h r (List.mem_cons_self ..)
      · exact grpAdd_all h1 h2 (rs := rs) (fun z hz => h z (List.mem_cons_of_mem _ hz)) r hr
theorem flat_low {α : Type} : ∀ {rs : List (List α)} {r : List α}, r ∈ rs → r.length ≤ rs.flatten.length
  | y :: rs, r, h => by
    rw [List.flatten_cons, List.length_append]
    rcases List.mem_cons.mp h with rfl | h
    · omega
    · have := flat_low (rs := rs) h
      omega
theorem flat_many {α : Type} : ∀ {rs : List (List α)}, (∀ r ∈ rs, r ≠ []) → rs.length ≤ rs.flatten.length
  | [], _ => Nat.le_refl _
  | y :: rs, h => by
    rw [List.flatten_cons, List.length_append]
    have := flat_many (rs := rs) fun z hz => h z (List.mem_cons_of_mem _ hz)
    have := List.length_pos_iff.mpr (h y (List.mem_cons_self ..))
    show rs.length + 1 ≤ _
    omega
/-- rows of events: none empty -/
structure GrpOk (evs : List Str) (n : Nat) (rows : List (List Str)) : Prop where
  ne : ∀ r ∈ rows, r ≠ [] ∧ ∀ e ∈ r, e ∈ evs
  size : rows.flatten.length = n
theorem GrpOk.add {evs : List Str} {n : Nat} {m : Str → Bool} {x : Str} {rows : List (List Str)} (h : GrpOk evs n rows) (hx : x ∈ evs) : GrpOk evs (n + 1) (grpAdd m x rows) :=
  ⟨grpAdd_all ⟨List.cons_ne_nil _ _, fun e he => List.mem_singleton.mp he ▸ hx⟩ (fun r hr => ⟨fun z => List.cons_ne_nil x [] (List.append_eq_nil_iff.mp z).2, fun e he => (List.mem_append.mp he).elim (hr.2 e) fun z => List.mem_singleton.mp z ▸ hx⟩) h.ne, by rw [grpAdd_size, h.size]⟩
theorem GrpOk.len {evs : List Str} {n : Nat} {rows : List (List Str)} (h : GrpOk evs n rows) : rows.length ≤ n := h.size ▸ flat_many fun r hr => (h.ne r hr).1
theorem GrpOk.low {evs : List Str} {n : Nat} {rows : List (List Str)} (h : GrpOk evs n rows) {r : List Str} (hr : r ∈ rows) : r.length ≤ n := h.size ▸ flat_low hr
theorem GrpOk.nil {evs : List Str} : GrpOk evs 0 [] := ⟨fun _ h => absurd h List.not_mem_nil, rfl⟩
/-- the rows whose first event is met -/
def metOf (m : Str → Bool) : List Addr → List (List Str) → List Addr
  | a :: as, r :: rs => if m (r.headD "") = true then a :: metOf m as rs else metOf m as rs
  | _, _ => []
theorem metOf_len {m : Str → Bool} : ∀ {as : List Addr} {rs : List (List Str)}, (metOf m as rs).length ≤ as.length
  | [], _ => by rw [metOf]; exact Nat.le_refl _; intros; contradiction
  | _ :: _, [] => by rw [metOf]; exact Nat.zero_le _; intros; contradiction
  | a :: as, r :: rs => by
    have ih := metOf_len (m := m) (as := as) (rs := rs)
    rw [metOf]
    split
    · exact Nat.succ_le_succ ih
    · exact Nat.le_succ_of_le ih
theorem metOf_take {m : Str → Bool} : ∀ {as : List Addr} {rs : List (List Str)} {i : Nat} {a : Addr} {r : List Str}, as[i]? = some a → rs[i]? = some r → metOf m (as.take (i + 1)) (rs.take (i + 1)) = metOf m (as.take i) (rs.take i) ++ if m (r.headD "") = true then [a] else []
  | [], _, i, a, r, h, _ => by simp at h
  | _ :: _, [], i, a, r, _, h => by simp at h
  | b :: as, s :: rs, 0, a, r, h, h' => by
    have h : some b = some a := h
    have h' : some s = some r := h'
    cases h
    cases h'
    show (if m (s.headD "") = true then b :: metOf m [] [] else metOf m [] []) = [] ++ _
    split <;> rfl
  | b :: as, s :: rs, i + 1, a, r, h, h' => by
    have h : as[i]? = some a := h
    have h' : rs[i]? = some r := h'
    have ih := metOf_take (m := m) h h'
    show (if m (s.headD "") = true then b :: metOf m (as.take (i + 1)) (rs.take (i + 1)) else metOf m (as.take (i + 1)) (rs.take (i + 1))) = (if m (s.headD "") = true then b :: metOf m (as.take i) (rs.take i) else metOf m (as.take i) (rs.take i)) ++ _
    rw [ih]
    split <;> rfl
def grpOf (sim : Str → Str → Bool) (es : List Str) : List (List Str) := es.foldl (fun rs x => grpAdd (sim x) x rs) []
def isFst (sim : Str → Str → Bool) (es : List Str) (e : Str) : Bool := decide ((es.filter (sim e)).headD "" = e)
def lawGrp (sim : Str → Str → Bool) (es : List Str) : List (List Str) := (es.filter (isFst sim es)).map fun e => es.filter (sim e)
/-- along rows whose heads are all of F, each of which is met at most once -/
theorem grpAdd_map {m : Str → Bool} {x : Str} {g : Str → List Str} : ∀ {F : List Str}, (∀ e ∈ F, (g e).headD "" = e) → F.Nodup → (∀ e ∈ F, ∀ e' ∈ F, m e = true → m e' = true → e = e') →
    grpAdd m x (F.map g) = (F.map fun e => g e ++ if m e = true then [x] else []) ++ if F.any m = true then [] else [[x]]
  | [], _, _, _ => rfl
  | e :: F, hg, nd, hu => by
    rw [List.nodup_cons] at nd
    rw [List.map_cons, List.map_cons, List.any_cons]
    unfold grpAdd
    rw [hg e (List.mem_cons_self ..)]
    cases h : m e with
    | true =>
      rw [if_pos rfl, if_pos rfl, Bool.true_or, if_pos rfl, List.append_nil]
      congr 1
      refine List.map_congr_left fun e' he' => ?_
      rw [if_neg, List.append_nil]
      intro h'
      exact nd.1 (hu e (List.mem_cons_self ..) e' (List.mem_cons_of_mem _ he') h h' ▸ he')
    | false =>
      rw [if_neg (by decide), if_neg (by decide), List.append_nil, Bool.false_or, List.cons_append]
      congr 1
      exact grpAdd_map (fun e' he' => hg e' (List.mem_cons_of_mem _ he')) nd.2 fun a ha b hb => hu a (List.mem_cons_of_mem _ ha) b (List.mem_cons_of_mem _ hb)
theorem headD_mem {xs : List Str} (h : xs ≠ []) : xs.headD "" ∈ xs := by
  cases xs with
  | nil => exact absurd rfl h
  | cons x r => exact List.mem_cons_self ..
theorem headD_app {xs ys : List Str} (h : xs ≠ []) : (xs ++ ys).headD "" = xs.headD "" := by
  cases xs with
  | nil => exact absurd rfl h
  | cons x r => rfl
theorem grp_eq {sim : Str → Str → Bool} {es : List Str} (nd : es.Nodup) (rf : ∀ e ∈ es, sim e e = true) (sy : ∀ e e', sim e e' = sim e' e) (tr : ∀ a ∈ es, ∀ b ∈ es, ∀ c ∈ es, sim a b = true → sim b c = true → sim a c = true) :
    grpOf sim es = lawGrp sim es := by
  have key : ∀ n, n ≤ es.length → (es.take n).foldl (fun rs x => grpAdd (sim x) x rs) [] = lawGrp sim (es.take n) := fun n => by
    induction n with
    | zero => intro _; rfl
    | succ n ih =>
      intro hn
      have hlt : n < es.length := hn
      have hx : es[n]? = some es[n] := List.getElem?_eq_getElem hlt
      have ih := ih (Nat.le_of_lt hlt)
      have sub : ∀ e ∈ es.take n, e ∈ es := fun e he => List.mem_of_mem_take he
      have xm : es[n] ∈ es := List.getElem_mem hlt
      have xn : es[n] ∉ es.take n := take_not nd hx
      have ndP : (es.take n).Nodup := nd.sublist (List.take_sublist ..)
      rw [List.take_add_one, hx, List.foldl_append, ih]
      show grpAdd (sim es[n]) es[n] (lawGrp sim (es.take n)) = lawGrp sim (es.take n ++ [es[n]])
      revert xm xn
      generalize es[n] = x
      revert sub ndP
      clear ih hx
      generalize es.take n = P
      intro sub ndP xm xn
      have ne : ∀ e ∈ P, P.filter (sim e) ≠ [] := fun e he z => by
        have : e ∈ P.filter (sim e) := List.mem_filter.mpr ⟨he, rf e (sub e he)⟩
        rw [z] at this
        cases this
      have fe : ∀ e, (P ++ [x]).filter (sim e) = P.filter (sim e) ++ if sim e x = true then [x] else [] := fun e => by
        rw [List.filter_append, List.filter_cons, List.filter_nil]
      have cong : ∀ e ∈ es, ∀ e' ∈ es, sim e e' = true → P.filter (sim e) = P.filter (sim e') := fun e he e' he' h => List.filter_congr fun y hy => by
        rw [Bool.eq_iff_iff]
        exact ⟨fun z => tr e' he' e he y (sub y hy) ((sy e' e).trans h) z, fun z => tr e he e' he' y (sub y hy) h z⟩
      have f1 : ∀ e ∈ P, isFst sim (P ++ [x]) e = isFst sim P e := fun e he => by
        unfold isFst
        rw [fe, headD_app (ne e he)]
      have any : (P.filter (isFst sim P)).any (sim x) = P.any (sim x) := by
        rw [Bool.eq_iff_iff, List.any_eq_true, List.any_eq_true]
        constructor
        · rintro ⟨e, he, h⟩
          exact ⟨e, (List.mem_filter.mp he).1, h⟩
        · rintro ⟨e, he, h⟩
          obtain ⟨hp, hs⟩ := List.mem_filter.mp (headD_mem (ne e he))
          have e2 := cong e (sub e he) _ (sub _ hp) hs
          refine ⟨(P.filter (sim e)).headD "", List.mem_filter.mpr ⟨hp, decide_eq_true ?_⟩, tr x xm e (sub e he) _ (sub _ hp) h hs⟩
          rw [← e2]
      have fx : isFst sim (P ++ [x]) x = !P.any (sim x) := by
        unfold isFst
        rw [fe, rf x xm, if_pos rfl]
        cases h : P.any (sim x) with
        | true =>
          obtain ⟨e, he, hs⟩ := List.any_eq_true.mp h
          have n0 : P.filter (sim x) ≠ [] := fun z => by
            have : e ∈ P.filter (sim x) := List.mem_filter.mpr ⟨he, hs⟩
            rw [z] at this
            cases this
          rw [headD_app n0]
          exact decide_eq_false fun z => xn (z ▸ (List.mem_filter.mp (headD_mem n0)).1)
        | false =>
          have n0 : P.filter (sim x) = [] := List.filter_eq_nil_iff.mpr fun y hy z => by
            have : P.any (sim x) = true := List.any_eq_true.mpr ⟨y, hy, z⟩
            rw [h] at this
            cases this
          rw [n0]
          exact decide_eq_true rfl
      unfold lawGrp
      rw [grpAdd_map (g := fun e => P.filter (sim e)) (F := P.filter (isFst sim P)) (fun e he => of_decide_eq_true (List.mem_filter.mp he).2) (ndP.sublist List.filter_sublist) (fun e he e' he' h h' => ?_), any, List.filter_append, List.map_append]
      · congr 1
        · rw [List.filter_congr f1]
          refine List.map_congr_left fun e he => ?_
          rw [fe, sy e x]
        · rw [List.filter_cons, List.filter_nil, fx]
          cases h : P.any (sim x) with
          | true => rfl
          | false =>
            rw [if_neg (by decide), if_pos (show (!false) = true from rfl), List.map_cons, List.map_nil, fe, rf x xm, if_pos rfl]
            have n0 : P.filter (sim x) = [] := List.filter_eq_nil_iff.mpr fun y hy z => by
              have : P.any (sim x) = true := List.any_eq_true.mpr ⟨y, hy, z⟩
              rw [h] at this
              cases this
            rw [n0]
            rfl
      · obtain ⟨p1, q1⟩ := List.mem_filter.mp he
        obtain ⟨p2, q2⟩ := List.mem_filter.mp he'
        have := cong e (sub e p1) e' (sub e' p2) (tr e (sub e p1) x xm e' (sub e' p2) ((sy e x).trans h) h')
        rw [← of_decide_eq_true q1, ← of_decide_eq_true q2, this]
  have := key es.length (Nat.le_refl _)
  rw [List.take_length] at this
  exact this
end Pu

set_option Elab.async false
set_option linter.all false
set_option maxRecDepth 100000
set_option maxHeartbeats 4000000
namespace Pk
open PySem PySem.Spec PyProof.Rows L2 Pu
section
variable {P : Program} {w : World} {K : PySem.W.Frag} {mg : Str → Option Value} {base : Heap}
/-! ### a plan's rows as plain data -/
theorem rows_split {H : Hp} {as : List Addr} {rs : List PRow} (h : RowsAt H as rs) : ∃ ts : List TRow, TRowsAt H as ts ∧ Paired (fun (t : TRow) (r : PRow) => t.1 = r.1 ∧ t.2.1 = r.2.1 ∧ t.2.2.1 = r.2.2.1 ∧ H t.2.2.2 = some (.tup [.str r.2.2.2.1, r.2.2.2.2])) ts rs := by
  unfold RowsAt at h
  induction h with
  | nil => exact ⟨[], .nil, .nil⟩
  | @cons a r as rs h _ ih =>
    obtain ⟨t, h1, h2⟩ := h
    obtain ⟨ts, i1, i2⟩ := ih
    exact ⟨(r.1, r.2.1, r.2.2.1, t) :: ts, .cons h1 i1, .cons ⟨rfl, rfl, rfl, h2⟩ i2⟩
theorem paired_mem {α β : Type} {R : α → β → Prop} {xs : List α} {ys : List β} (h : Paired R xs ys) : ∀ x ∈ xs, ∃ y ∈ ys, R x y := by
  induction h with
  | nil => intro x hx; cases hx
  | cons a _ ih =>
    intro x hx
    rcases List.mem_cons.mp hx with e | hx
    · exact ⟨_, List.mem_cons_self .., e ▸ a⟩
    · obtain ⟨y, hy, r⟩ := ih x hx
      exact ⟨y, List.mem_cons_of_mem _ hy, r⟩
theorem name_ne {e : Str} (h : nameOk e = true) : e ≠ ("" : Str) := fun z => by
  rw [z] at h
  exact absurd h (by decide)
theorem evs_nd {d : PlanD} (ok : PlanOk d) : (("" : Str) :: d.evs).Nodup := by
  rw [List.nodup_cons]
  exact ⟨fun z => name_ne (ok.evs.nm _ z) rfl, ok.evs.nd⟩
theorem planRows_len {d : PlanD} (ok : PlanOk d) : (planRows d).length ≤ 100 := by
  have h1 := ok.evs.hi
  have h2 := ok.tl
  unfold planRows rowsT rowsC rowsN
  rw [List.length_append, List.length_append, List.length_map, List.length_zipIdx, List.length_map, List.length_map]
  have := List.length_filter_le (fun e => (capOf d.caps e).isSome) d.evs
  omega
theorem capOf_nn {d : PlanD} (ok : PlanOk d) (e : Str) : 0 ≤ (capOf d.caps e).getD 0 := by
  unfold capOf
  cases h : d.caps.find? fun c => decide (c.1 = e) with
  | none => exact Int.le_refl _
  | some c => exact (ok.cin c (List.mem_of_find?_eq_some h)).2
theorem planRows_in {d : PlanD} (ok : PlanOk d) : ∀ r ∈ planRows d, r.1 ∈ ("" : Str) :: d.evs ∧ r.2.1 ∈ ("" : Str) :: d.evs ∧ 0 ≤ r.2.2.1 := by
  intro r hr
  unfold planRows at hr
  rcases List.mem_append.mp hr with hr | hr
  · rcases List.mem_append.mp hr with hr | hr
    · unfold rowsT at hr
      obtain ⟨t, ht, rfl⟩ := List.mem_map.mp hr
      have hm := ok.tin t.1 (List.fst_mem_of_mem_zipIdx ht)
      exact ⟨List.mem_cons_of_mem _ hm.1, List.mem_cons_of_mem _ hm.2.1, hm.2.2⟩
    · unfold rowsC at hr
      obtain ⟨e, he, rfl⟩ := List.mem_map.mp hr
      exact ⟨List.mem_cons_self .., List.mem_cons_of_mem _ (List.mem_filter.mp he).1, capOf_nn ok e⟩
  · unfold rowsN at hr
    obtain ⟨e, he, rfl⟩ := List.mem_map.mp hr
    exact ⟨List.mem_cons_of_mem _ he, List.mem_cons_self .., Int.le_refl _⟩

/-! ### the rows of the program and of the law are the same -/
theorem mem_zip_of {α : Type} : ∀ {xs : List α} {x : α} (k : Nat), x ∈ xs → ∃ i, (x, i) ∈ xs.zipIdx k
  | y :: ys, x, k, h => by
    rw [List.zipIdx_cons]
    rcases List.mem_cons.mp h with rfl | h
    · exact ⟨k, List.mem_cons_self ..⟩
    · obtain ⟨i, hi⟩ := mem_zip_of (k + 1) h
      exact ⟨i, List.mem_cons_of_mem _ hi⟩
theorem capOf_mem {cs : List (Str × Int)} {e : Str} {n : Int} (h : capOf cs e = some n) : (e, n) ∈ cs := by
  unfold capOf at h
  cases q : cs.find? fun c => decide (c.1 = e) with
  | none => rw [q] at h; cases h
  | some c =>
    rw [q] at h
    cases h
    have z : decide (c.1 = e) = true := List.find?_some (p := fun c : Str × Int => decide (c.1 = e)) q
    rw [← of_decide_eq_true z]
    exact List.mem_of_find?_eq_some q
theorem rows_law {d : PlanD} (ok : PlanOk d) (f l : Str) (a : Int) : (∃ r ∈ planRows d, r.1 = f ∧ r.2.1 = l ∧ r.2.2.1 = a) ↔ (f, l, a) ∈ lawRows d := by
  unfold planRows lawRows
  constructor
  · rintro ⟨r, hr, rfl, rfl, rfl⟩
    rcases List.mem_append.mp hr with hr | hr
    · rcases List.mem_append.mp hr with hr | hr
      · obtain ⟨t, ht, rfl⟩ := List.mem_map.mp hr
        exact List.mem_append_left _ (List.mem_append_left _ (List.fst_mem_of_mem_zipIdx ht))
      · obtain ⟨e, he, rfl⟩ := List.mem_map.mp hr
        obtain ⟨_, hs⟩ := List.mem_filter.mp he
        obtain ⟨n, hn⟩ := Option.isSome_iff_exists.mp hs
        refine List.mem_append_left _ (List.mem_append_right _ (List.mem_map.mpr ⟨(e, n), capOf_mem hn, ?_⟩))
        rw [hn]
        rfl
    · obtain ⟨e, he, rfl⟩ := List.mem_map.mp hr
      exact List.mem_append_right _ (List.mem_map.mpr ⟨e, he, rfl⟩)
  · intro h
    rcases List.mem_append.mp h with h | h
    · rcases List.mem_append.mp h with h | h
      · obtain ⟨i, hi⟩ := mem_zip_of 0 h
        exact ⟨_, List.mem_append_left _ (List.mem_append_left _ (List.mem_map.mpr ⟨_, hi, rfl⟩)), rfl, rfl, rfl⟩
      · obtain ⟨c, hc, z⟩ := List.mem_map.mp h
        cases z
        have hn := capOf_nd ok.cnd hc
        refine ⟨_, List.mem_append_left _ (List.mem_append_right _ (List.mem_map.mpr ⟨c.1, List.mem_filter.mpr ⟨(ok.cin c hc).1, by rw [hn]; rfl⟩, rfl⟩)), rfl, rfl, ?_⟩
        rw [hn]
        rfl
    · obtain ⟨e, he, z⟩ := List.mem_map.mp h
      cases z
      exact ⟨_, List.mem_append_right _ (List.mem_map.mpr ⟨_, he, rfl⟩), rfl, rfl, rfl⟩
theorem paired_mem2 {α β : Type} {R : α → β → Prop} {xs : List α} {ys : List β} (h : Paired R xs ys) : ∀ y ∈ ys, ∃ x ∈ xs, R x y := by
  induction h with
  | nil => intro x hx; cases hx
  | cons a _ ih =>
    intro y hy
    rcases List.mem_cons.mp hy with e | hy
    · exact ⟨_, List.mem_cons_self .., e ▸ a⟩
    · obtain ⟨x, hx, r⟩ := ih y hy
      exact ⟨x, List.mem_cons_of_mem _ hx, r⟩
theorem rowR_iff {d : PlanD} (ok : PlanOk d) {H : Hp} {rs : List TRow} (h : Paired (fun (t : TRow) (r : PRow) => t.1 = r.1 ∧ t.2.1 = r.2.1 ∧ t.2.2.1 = r.2.2.1 ∧ H t.2.2.2 = some (.tup [.str r.2.2.2.1, r.2.2.2.2])) rs (planRows d)) (f l : Str) (a : Int) : RowR rs f l a ↔ RowL (lawRows d) f l a := by
  constructor
  · rintro ⟨t, ht⟩
    obtain ⟨r, hr, h1, h2, h3, _⟩ := paired_mem h _ ht
    exact (rows_law ok f l a).mp ⟨r, hr, h1.symm, h2.symm, h3.symm⟩
  · intro hl
    obtain ⟨r, hr, rfl, rfl, rfl⟩ := (rows_law ok f l a).mpr hl
    obtain ⟨t, ht, h1, h2, h3, _⟩ := paired_mem2 h _ hr
    refine ⟨t.2.2.2, ?_⟩
    rw [← h1, ← h2, ← h3]
    exact ht
/-- the least sums of a plan's rows, as the law finds them -/
def far (d : PlanD) (f : Str) : SR := bfN (lawRows d) (d.evs.length + 1) [(f, 0)]
theorem far_dist {d : PlanD} (ok : PlanOk d) {f : Str} (hf : f ∈ ("" : Str) :: d.evs) (l : Str) (v : Int) : getR (far d f) l = some v ↔ Dist (RowL (lawRows d)) f l v :=
  bf_dist (lawRows_in ok) hf (Nat.le_refl _) l v
theorem far_all {d : PlanD} (ok : PlanOk d) {H : Hp} {rs : List TRow} (h : Paired (fun (t : TRow) (r : PRow) => t.1 = r.1 ∧ t.2.1 = r.2.1 ∧ t.2.2.1 = r.2.2.1 ∧ H t.2.2.2 = some (.tup [.str r.2.2.2.1, r.2.2.2.2])) rs (planRows d)) {f : Str} (hf : f ∈ ("" : Str) :: d.evs) (l : Str) : sOf (allZ (("" : Str) :: d.evs) rs) f l = getR (far d f) l := by
  have hrs : ∀ r ∈ rs, r.1 ∈ ("" : Str) :: d.evs ∧ r.2.1 ∈ ("" : Str) :: d.evs ∧ 0 ≤ r.2.2.1 := fun r hr => by
    obtain ⟨y, hy, q1, q2, q3, _⟩ := paired_mem h r hr
    rw [q1, q2, q3]
    exact planRows_in ok y hy
  have hi := rowR_iff ok h
  refine Option.ext fun v => ?_
  rw [all_dist (evs_nd ok) hrs hf l v, far_dist ok hf]
  exact ⟨fun z => z.imp (fun f l a => (hi f l a).mp) (fun f l a => (hi f l a).mpr), fun z => z.imp (fun f l a => (hi f l a).mpr) (fun f l a => (hi f l a).mp)⟩
theorem law_nn {d : PlanD} (ok : PlanOk d) (a b : Str) (c : Int) (h : RowL (lawRows d) a b c) : 0 ≤ c := (lawRows_in ok _ h).2.2
theorem far_some {d : PlanD} (ok : PlanOk d) {f : Str} (hf : f ∈ ("" : Str) :: d.evs) (l : Str) : (getR (far d f) l).isSome = true ↔ ∃ w, Wk (RowL (lawRows d)) f l w := by
  rw [Option.isSome_iff_exists]
  constructor
  · rintro ⟨v, hv⟩
    exact ⟨v, ((far_dist ok hf l v).mp hv).1⟩
  · rintro ⟨w, hw⟩
    obtain ⟨v, hd⟩ := dist_ex (law_nn ok) w.toNat (Int.self_le_toNat w) hw
    exact ⟨v, (far_dist ok hf l v).mpr hd⟩
theorem far_in {d : PlanD} (ok : PlanOk d) {f : Str} (hf : f ∈ ("" : Str) :: d.evs) {l : Str} {v : Int} (h : getR (far d f) l = some v) : l ∈ ("" : Str) :: d.evs := by
  have k : KOk (("" : Str) :: d.evs) (far d f) := (KOk.begin hf).bfN (fun r hr => (lawRows_in ok r hr).2.1) _
  exact k.2 _ (List.mem_map_of_mem (f := (·.1)) (getR_mem h))
/-- two events keep together -/
def simB (d : PlanD) (e g : Str) : Bool := (getR (far d e) g).isSome && (getR (far d g) e).isSome
theorem simB_symm (d : PlanD) (e g : Str) : simB d e g = simB d g e := by
  unfold simB
  exact Bool.and_comm ..
theorem simB_refl {d : PlanD} (ok : PlanOk d) {e : Str} (he : e ∈ d.evs) : simB d e e = true := by
  have h := (far_some ok (List.mem_cons_of_mem _ he) e).mpr ⟨0, .nil⟩
  unfold simB
  rw [h]
  rfl
theorem simB_trans {d : PlanD} (ok : PlanOk d) (a : Str) (ha : a ∈ d.evs) (b : Str) (hb : b ∈ d.evs) (c : Str) (hc : c ∈ d.evs) (h1 : simB d a b = true) (h2 : simB d b c = true) : simB d a c = true := by
  have m : ∀ {x}, x ∈ d.evs → x ∈ ("" : Str) :: d.evs := fun h => List.mem_cons_of_mem _ h
  unfold simB at *
  obtain ⟨p1, p2⟩ := Bool.and_eq_true_iff.mp h1
  obtain ⟨q1, q2⟩ := Bool.and_eq_true_iff.mp h2
  obtain ⟨_, w1⟩ := (far_some ok (m ha) b).mp p1
  obtain ⟨_, w2⟩ := (far_some ok (m hb) a).mp p2
  obtain ⟨_, w3⟩ := (far_some ok (m hb) c).mp q1
  obtain ⟨_, w4⟩ := (far_some ok (m hc) b).mp q2
  exact Bool.and_eq_true_iff.mpr ⟨(far_some ok (m ha) c).mpr ⟨_, w1.app w3⟩, (far_some ok (m hc) a).mpr ⟨_, w4.app w2⟩⟩
/-- the endless events -/
def dueB (d : PlanD) (e : Str) : Bool := !(getR (far d "") e).isSome
theorem held_tr {d : PlanD} (ok : PlanOk d) {e : Str} {w : Int} (h : Wk (RowL (lawRows d)) "" e w) : e ≠ "" → ∃ x ∈ d.caps.map (·.1), Tr d.ties x e := by
  induction h with
  | nil => intro z; exact absurd rfl z
  | @snoc k l a b _ r ih =>
    intro hl
    have r : (k, l, b) ∈ lawRows d := r
    unfold lawRows at r
    rcases List.mem_append.mp r with r | r
    · rcases List.mem_append.mp r with r | r
      · have hk : k ≠ "" := fun z => name_ne (ok.evs.nm _ (ok.tin _ r).1) z
        obtain ⟨x, hx, ht⟩ := ih hk
        exact ⟨x, hx, ht.app (.step r .nil)⟩
      · obtain ⟨c, hc, z⟩ := List.mem_map.mp r
        cases z
        exact ⟨_, List.mem_map_of_mem (f := (·.1)) hc, .nil⟩
    · obtain ⟨g, _, z⟩ := List.mem_map.mp r
      cases z
      exact absurd rfl hl
theorem tr_wk {d : PlanD} {a e : Str} (h : Tr d.ties a e) : ∃ w, Wk (RowL (lawRows d)) a e w := by
  induction h with
  | nil => exact ⟨0, .nil⟩
  | @step a b e n ht _ ih =>
    obtain ⟨w, hw⟩ := ih
    exact ⟨_, (Wk.one (show RowL (lawRows d) a b n from List.mem_append_left _ (List.mem_append_left _ ht))).app hw⟩
theorem due_iff {d : PlanD} (ok : PlanOk d) {e : Str} (he : e ∈ d.evs) : dueB d e = true ↔ ∀ x ∈ d.caps.map (·.1), ¬ ClR d.ties [e] x := by
  unfold dueB
  rw [Bool.not_eq_true', ← Bool.not_eq_true, far_some ok (List.mem_cons_self ..)]
  constructor
  · rintro h x hx ⟨e', he', ht⟩
    rw [List.mem_singleton.mp he'] at ht
    obtain ⟨c, hc, rfl⟩ := List.mem_map.mp hx
    obtain ⟨w, hw⟩ := tr_wk ht
    exact h ⟨_, (Wk.one (show RowL (lawRows d) "" c.1 c.2 from List.mem_append_left _ (List.mem_append_right _ (List.mem_map_of_mem (f := fun c : Str × Int => (("" : Str), c.1, c.2)) hc)))).app hw⟩
  · rintro h ⟨w, hw⟩
    obtain ⟨x, hx, ht⟩ := held_tr ok hw (name_ne (ok.evs.nm _ he))
    exact h x hx ⟨e, List.mem_singleton.mpr rfl, ht⟩
/-- what the events of a list wait for -/
def closedL (d : PlanD) (some : List Str) : List Str := d.evs.filter fun e => decide (e ∈ lawCl d.ties some d.evs.length)
theorem closed_mark {d : PlanD} (ok : PlanOk d) {some ks : List Str} (hs : ∀ e ∈ some, e ∈ d.evs) (hk : ∀ a, a ∈ ks ↔ a ∈ some) : (d.evs.filter fun e => decide (e ∈ markN d.ties ks d.evs.length)) = closedL d some := by
  refine List.filter_congr fun e _ => ?_
  rw [Bool.eq_iff_iff, decide_eq_true_iff, decide_eq_true_iff, markN_iff (fun t ht => (ok.tin t ht).1) hs hk _ (Nat.le_refl _), lawCl_iff (fun t ht => (ok.tin t ht).1) hs _ (Nat.le_refl _)]
theorem due_closed {d : PlanD} (ok : PlanOk d) {e : Str} (he : e ∈ d.evs) : dueB d e = true ↔ (closedL d [e]).filter (fun x => decide (x ∈ d.caps.map (·.1))) = [] := by
  rw [due_iff ok he, List.filter_eq_nil_iff]
  have hs : ∀ x ∈ [e], x ∈ d.evs := fun x hx => List.mem_singleton.mp hx ▸ he
  constructor
  · intro h x hx z
    obtain ⟨_, h2⟩ := List.mem_filter.mp hx
    exact h x (of_decide_eq_true z) ((lawCl_iff (fun t ht => (ok.tin t ht).1) hs _ (Nat.le_refl _) x).mp (of_decide_eq_true h2))
  · intro h x hx hc
    refine h x (List.mem_filter.mpr ⟨?_, decide_eq_true ((lawCl_iff (fun t ht => (ok.tin t ht).1) hs _ (Nat.le_refl _) x).mpr hc)⟩) (decide_eq_true hx)
    obtain ⟨c, hc2, rfl⟩ := List.mem_map.mp hx
    exact (ok.cin c hc2).1

/-! ### the closed sums of a plan -/
structure SumsAt (H : Hp) (q : Addr) (d : PlanD) : Prop where
  ex : ∃ (sa : Str → Addr) (Z : Str → SR × WR), H q = some (.dK (outV (("" : Str) :: d.evs) sa)) ∧ (∀ f ∈ ("" : Str) :: d.evs, H (sa f) = some (.dK (kvR V.int (Z f).1))) ∧ ∀ f ∈ ("" : Str) :: d.evs, ∀ l, getR (Z f).1 l = getR (far d f) l
theorem SumsAt.same {H H' : Hp} {q : Addr} {d : PlanD} (h : SumsAt H q d) (s : Same H H') : SumsAt H' q d := by
  obtain ⟨sa, Z, h1, h2, h3⟩ := h.ex
  exact ⟨sa, Z, s _ _ h1, fun f hf => s _ _ (h2 f hf), h3⟩
theorem SumsAt.row {H : Hp} {q : Addr} {d : PlanD} (h : SumsAt H q d) {f : Str} (hf : f ∈ ("" : Str) :: d.evs) : ∃ a, DGet H q (.str f) (some (.ref a)) ∧ ∀ l, DGet H a (.str l) ((getR (far d f) l).map V.int) := by
  obtain ⟨sa, Z, h1, h2, h3⟩ := h.ex
  refine ⟨sa f, .inl ⟨outV (("" : Str) :: d.evs) sa, .inr f, .inl h1, rfl, (outV_get hf).symm⟩, fun l => .inl ⟨kvR V.int _, .inr l, .inl (h2 f hf), rfl, ?_⟩⟩
  rw [valV_kvR, h3 f hf l]
theorem SumsAt.row2 {H : Hp} {q : Addr} {d : PlanD} (h : SumsAt H q d) {f : Str} (hf : f ∈ ("" : Str) :: d.evs) : ∃ a kvs, DGet H q (.str f) (some (.ref a)) ∧ H a = some (.dK kvs) ∧ ∀ l, DGet H a (.str l) ((getR (far d f) l).map V.int) := by
  obtain ⟨sa, Z, h1, h2, h3⟩ := h.ex
  refine ⟨sa f, _, .inl ⟨outV (("" : Str) :: d.evs) sa, .inr f, .inl h1, rfl, (outV_get hf).symm⟩, h2 f hf, fun l => .inl ⟨kvR V.int _, .inr l, .inl (h2 f hf), rfl, ?_⟩⟩
  rw [valV_kvR, h3 f hf l]
theorem isSome_int (o : Option Int) : (o.map V.int).isSome = o.isSome := by cases o <;> rfl

end
end Pk

set_option Elab.async false
set_option linter.all false
set_option maxRecDepth 100000
/-! what follows from other rows: the tight steps between two places -/
namespace Pu
open PySem PySem.Spec PyProof.Rows L2
/-! ### what follows from other steps -/
/-- a way along steps -/
inductive Rc (st : List (Str × Str)) (f : Str) : Str → Prop
  | nil : Rc st f f
  | snoc {k l : Str} : Rc st f k → (k, l) ∈ st → Rc st f l
/-- S tells the least sums of R between the places -/
structure ClS (ps : List Str) (S : Str → Str → Option Int) (R : Str → Str → Int → Prop) : Prop where
  d : ∀ f ∈ ps, ∀ l v, S f l = some v ↔ Dist R f l v
  nn : ∀ f l a, R f l a → 0 ≤ a
  rin : ∀ f l a, R f l a → f ∈ ps ∧ l ∈ ps
theorem ClS.self {ps : List Str} {S : Str → Str → Option Int} {R : Str → Str → Int → Prop} (h : ClS ps S R) {f : Str} (hf : f ∈ ps) : S f f = some 0 := (h.d f hf f 0).mpr ⟨.nil, fun _ hw => hw.nn h.nn⟩
theorem ClS.wk {ps : List Str} {S : Str → Str → Option Int} {R : Str → Str → Int → Prop} (h : ClS ps S R) {f l : Str} (hf : f ∈ ps) {w : Int} (hw : Wk R f l w) : ∃ v, S f l = some v ∧ v ≤ w ∧ 0 ≤ v := by
  obtain ⟨v, hv⟩ := dist_ex h.nn w.toNat (Int.self_le_toNat w) hw
  exact ⟨v, (h.d f hf l v).mpr hv, hv.2 _ hw, hv.1.nn h.nn⟩
theorem ClS.of {ps : List Str} {S : Str → Str → Option Int} {R : Str → Str → Int → Prop} (h : ClS ps S R) {f l : Str} (hf : f ∈ ps) {v : Int} (hv : S f l = some v) : Wk R f l v ∧ ∀ w, Wk R f l w → v ≤ w := (h.d f hf l v).mp hv
theorem ClS.tri {ps : List Str} {S : Str → Str → Option Int} {R : Str → Str → Int → Prop} (h : ClS ps S R) {f k l : Str} (hf : f ∈ ps) (hk : k ∈ ps) {a b : Int} (h1 : S f k = some a) (h2 : S k l = some b) : ∃ v, S f l = some v ∧ v ≤ a + b ∧ 0 ≤ v :=
  h.wk hf ((h.of hf h1).1.app (h.of hk h2).1)
def tightB (S : Str → Str → Option Int) (tie r : LRow) : Bool := match S tie.1 r.1, S r.2.1 tie.2.1 with
  | some a, some b => decide (a + r.2.2 + b = tie.2.2)
  | _, _ => false
def tights (S : Str → Str → Option Int) (tie : LRow) (rs : List LRow) : List (Str × Str) := (rs.filter (tightB S tie)).map fun r => (r.1, r.2.1)
def roundB (S : Str → Str → Option Int) (tie : LRow) (p : Str) : Bool := match S tie.1 p, S p tie.2.1 with
  | some a, some b => decide (p ≠ tie.1 ∧ p ≠ tie.2.1) && decide (a + b = tie.2.2)
  | _, _ => false
theorem mem_tights {S : Str → Str → Option Int} {tie : LRow} {rs : List LRow} {x y : Str} : (x, y) ∈ tights S tie rs ↔ ∃ b, (x, y, b) ∈ rs ∧ tightB S tie (x, y, b) = true := by
  unfold tights
  rw [List.mem_map]
  constructor
  · rintro ⟨⟨a, b, c⟩, hr, e⟩
    cases e
    obtain ⟨h1, h2⟩ := List.mem_filter.mp hr
    exact ⟨c, h1, h2⟩
  · rintro ⟨b, h1, h2⟩
    exact ⟨(x, y, b), List.mem_filter.mpr ⟨h1, h2⟩, rfl⟩
theorem tight_some {S : Str → Str → Option Int} {tie r : LRow} (h : tightB S tie r = true) : ∃ a b, S tie.1 r.1 = some a ∧ S r.2.1 tie.2.1 = some b ∧ a + r.2.2 + b = tie.2.2 := by
  unfold tightB at h
  split at h
  · rename_i a b h1 h2
    exact ⟨a, b, h1, h2, of_decide_eq_true h⟩
  · cases h
/-- what the rows of a plan and one tie more are -/
structure FolOk (ps : List Str) (S : Str → Str → Option Int) (R : Str → Str → Int → Prop) (others : List LRow) (tie : LRow) : Prop where
  cl : ClS ps S R
  hR : ∀ f l a, R f l a ↔ (f, l, a) ∈ others ∨ (f, l, a) = tie
  ne : tie.1 = tie.2.1 → 0 < tie.2.2
theorem FolOk.tin {ps : List Str} {S : Str → Str → Option Int} {R : Str → Str → Int → Prop} {others : List LRow} {tie : LRow} (h : FolOk ps S R others tie) : tie.1 ∈ ps ∧ tie.2.1 ∈ ps ∧ 0 ≤ tie.2.2 := by
  have r : R tie.1 tie.2.1 tie.2.2 := (h.hR _ _ _).mpr (.inr rfl)
  exact ⟨(h.cl.rin _ _ _ r).1, (h.cl.rin _ _ _ r).2, h.cl.nn _ _ _ r⟩
theorem FolOk.lag {ps : List Str} {S : Str → Str → Option Int} {R : Str → Str → Int → Prop} {others : List LRow} {tie : LRow} (h : FolOk ps S R others tie) : ∃ v, S tie.1 tie.2.1 = some v ∧ v ≤ tie.2.2 := by
  obtain ⟨v, h1, h2, _⟩ := h.cl.wk h.tin.1 (.one ((h.hR _ _ _).mpr (.inr rfl)))
  exact ⟨v, h1, h2⟩
/-- a walk with the tie in it is as long as the tie, or one without it -/
theorem split_tie {R : Str → Str → Int → Prop} {others : List LRow} {tie : LRow} (hR : ∀ f l a, R f l a ↔ (f, l, a) ∈ others ∨ (f, l, a) = tie) (nn : ∀ f l a, R f l a → 0 ≤ a) {f l : Str} {w : Int} (h : Wk R f l w) : Wk (RowL others) f l w ∨ tie.2.2 ≤ w := by
  induction h with
  | nil => exact .inl .nil
  | @snoc k l a b hk r ih =>
    have hb := nn _ _ _ r
    have ha := hk.nn nn
    rcases (hR _ _ _).mp r with r | r
    · rcases ih with ih | ih
      · exact .inl (ih.snoc r)
      · exact .inr (by omega)
    · right
      have : b = tie.2.2 := by rw [← r]
      omega
theorem rc_sum {ps : List Str} {S : Str → Str → Option Int} {R : Str → Str → Int → Prop} {others : List LRow} {tie : LRow} (h : FolOk ps S R others tie) (hl : S tie.1 tie.2.1 = some tie.2.2) {x : Str} (hx : Rc (tights S tie others) tie.1 x) : ∃ a b, S tie.1 x = some a ∧ S x tie.2.1 = some b ∧ a + b = tie.2.2 ∧ Wk (RowL others) tie.1 x a := by
  have tin := h.tin
  induction hx with
  | nil => exact ⟨0, _, h.cl.self tin.1, hl, Int.zero_add _, .nil⟩
  | @snoc k l hk r ih =>
    obtain ⟨a, b, h1, h2, h3, h4⟩ := ih
    obtain ⟨c, hc, ht⟩ := mem_tights.mp r
    obtain ⟨a', b', t1, t2, t3⟩ := tight_some ht
    have t1 : S tie.1 k = some a' := t1
    have t2 : S l tie.2.1 = some b' := t2
    have t3 : a' + c + b' = tie.2.2 := t3
    rw [h1] at t1
    cases t1
    have rr : R k l c := (h.hR _ _ _).mpr (.inl hc)
    obtain ⟨v, hv, hle, _⟩ := h.cl.wk tin.1 ((h.cl.of tin.1 h1).1.snoc rr)
    obtain ⟨u, hu, hle2, _⟩ := h.cl.tri tin.1 (h.cl.rin _ _ _ rr).2 hv t2
    rw [hl] at hu
    cases hu
    have e : v = a + c := by omega
    rw [e] at hv
    exact ⟨a + c, b', hv, t2, by omega, h4.snoc hc⟩
/-- the nodes of a walk that bars just as much are on tight steps -/
theorem wk_tight {ps : List Str} {S : Str → Str → Option Int} {R : Str → Str → Int → Prop} {others : List LRow} {tie : LRow} (h : FolOk ps S R others tie) (hl : S tie.1 tie.2.1 = some tie.2.2) {x : Str} {w : Int} (hw : Wk (RowL others) tie.1 x w) : ∀ {b : Int}, S x tie.2.1 = some b → w + b = tie.2.2 →
    Rc (tights S tie others) tie.1 x ∧ (x = tie.1 ∨ (∃ p, roundB S tie p = true) ∨ (x ≠ tie.2.1 ∧ roundB S tie x = true) ∨ (x = tie.2.1 ∧ (tie.1, tie.2.1, w) ∈ others) ∨ tie.1 = tie.2.1) := by
  have tin := h.tin
  have nn := h.cl.nn
  induction hw with
  | nil => intro b _ _; exact ⟨.nil, .inl rfl⟩
  | @snoc k l a c hk r ih =>
    intro b hb hsum
    have r : (k, l, c) ∈ others := r
    have rr : R k l c := (h.hR _ _ _).mpr (.inl r)
    have hc := nn _ _ _ rr
    have hkin := (h.cl.rin _ _ _ rr).1
    have hlin := (h.cl.rin _ _ _ rr).2
    -- k to the end: at most c + b, at least what is left
    obtain ⟨v, hv, hle, _⟩ := h.cl.wk hkin ((Wk.one (R := R) rr).app (h.cl.of hlin hb).1)
    have hkR : Wk R tie.1 k a := hk.imp fun f l a z => (h.hR _ _ _).mpr (.inl z)
    have hge := (h.cl.of tin.1 hl).2 _ (hkR.app (h.cl.of hkin hv).1)
    have hv2 : v = c + b := by omega
    rw [hv2] at hv
    obtain ⟨hrc, hor⟩ := ih hv (by omega)
    obtain ⟨u, hu, hle3, _⟩ := h.cl.wk tin.1 hkR
    have hu2 : u = a := by
      have := (h.cl.of tin.1 hl).2 _ ((h.cl.of tin.1 hu).1.app (h.cl.of hkin hv).1)
      omega
    rw [hu2] at hu
    refine ⟨hrc.snoc (mem_tights.mpr ⟨c, r, ?_⟩), ?_⟩
    · unfold tightB
      show (match S tie.1 k, S l tie.2.1 with | some a, some b => decide (a + c + b = tie.2.2) | _, _ => false) = true
      rw [hu, hb]
      exact decide_eq_true hsum
    · by_cases e0 : tie.1 = tie.2.1
      · exact .inr (.inr (.inr (.inr e0)))
      rcases hor with hor | hor | hor | hor | hor
      · by_cases e1 : l = tie.1
        · exact .inl e1
        by_cases e2 : l = tie.2.1
        · refine .inr (.inr (.inr (.inl ⟨e2, ?_⟩)))
          rw [hor] at r hu
          rw [h.cl.self tin.1] at hu
          cases hu
          rw [e2] at r
          rw [Int.zero_add]
          exact r
        · refine .inr (.inl ⟨l, ?_⟩)
          have hlR : Wk R tie.1 l (a + c) := hkR.snoc rr
          obtain ⟨y, hy, hle4, _⟩ := h.cl.wk tin.1 hlR
          have hy2 : y = a + c := by
            have := (h.cl.of tin.1 hl).2 _ ((h.cl.of tin.1 hy).1.app (h.cl.of hlin hb).1)
            omega
          unfold roundB
          rw [hy, hb]
          show (decide (l ≠ tie.1 ∧ l ≠ tie.2.1) && decide (y + b = tie.2.2)) = true
          rw [decide_eq_true (And.intro e1 e2), decide_eq_true (by omega)]
          rfl
      · exact .inr (.inl hor)
      · exact .inr (.inl ⟨k, hor.2⟩)
      · obtain ⟨rfl, hm⟩ := hor
        by_cases e1 : l = tie.1
        · exact .inl e1
        by_cases e2 : l = tie.2.1
        · have hb0 : b = 0 := by
            rw [e2, h.cl.self tin.2.1] at hb
            cases hb
            rfl
          refine .inr (.inr (.inr (.inl ⟨e2, ?_⟩)))
          have hv3 := h.cl.self hkin
          rw [hv3] at hv
          have : c + b = 0 := (Option.some.inj hv).symm
          have hc0 : c = 0 := by omega
          rw [hc0, Int.add_zero]
          exact hm
        · refine .inr (.inl ⟨l, ?_⟩)
          have hlR : Wk R tie.1 l (a + c) := hkR.snoc rr
          obtain ⟨y, hy, hle4, _⟩ := h.cl.wk tin.1 hlR
          have hy2 : y = a + c := by
            have := (h.cl.of tin.1 hl).2 _ ((h.cl.of tin.1 hy).1.app (h.cl.of hlin hb).1)
            omega
          unfold roundB
          rw [hy, hb]
          show (decide (l ≠ tie.1 ∧ l ≠ tie.2.1) && decide (y + b = tie.2.2)) = true
          rw [decide_eq_true (And.intro e1 e2), decide_eq_true (by omega)]
          rfl
      · exact absurd hor e0
open Classical in
/-- a tie follows from other rows -/
noncomputable def fol (others : List LRow) (tie : LRow) : Bool := decide (∃ w, w ≤ tie.2.2 ∧ Wk (RowL others) tie.1 tie.2.1 w)
theorem fol_iff {others : List LRow} {tie : LRow} : fol others tie = true ↔ ∃ w, w ≤ tie.2.2 ∧ Wk (RowL others) tie.1 tie.2.1 w := by
  unfold fol
  exact @decide_eq_true_iff _ (Classical.propDecidable _)
/-- the program's way to tell it -/
theorem fol_lt {ps : List Str} {S : Str → Str → Option Int} {R : Str → Str → Int → Prop} {others : List LRow} {tie : LRow} (h : FolOk ps S R others tie) {v : Int} (hv : S tie.1 tie.2.1 = some v) (hlt : v < tie.2.2) : fol others tie = true := by
  rw [fol_iff]
  rcases split_tie h.hR h.cl.nn (h.cl.of h.tin.1 hv).1 with q | q
  · exact ⟨v, by omega, q⟩
  · omega
theorem fol_in {others : List LRow} {tie : LRow} (h : tie ∈ others) : fol others tie = true := fol_iff.mpr ⟨_, Int.le_refl _, .one h⟩
theorem fol_rc {ps : List Str} {S : Str → Str → Option Int} {R : Str → Str → Int → Prop} {others : List LRow} {tie : LRow} (h : FolOk ps S R others tie) (hl : S tie.1 tie.2.1 = some tie.2.2) (hr : Rc (tights S tie others) tie.1 tie.2.1) : fol others tie = true := by
  obtain ⟨a, b, h1, h2, h3, h4⟩ := rc_sum h hl hr
  rw [fol_iff]
  rw [hl] at h1
  cases h1
  exact ⟨_, Int.le_refl _, h4⟩
theorem fol_way {ps : List Str} {S : Str → Str → Option Int} {R : Str → Str → Int → Prop} {others : List LRow} {tie : LRow} (h : FolOk ps S R others tie) (hl : S tie.1 tie.2.1 = some tie.2.2) (hn : tie ∉ others) (hf : fol others tie = true) : (∃ p, roundB S tie p = true) ∧ Rc (tights S tie others) tie.1 tie.2.1 := by
  obtain ⟨w, hw, hwk⟩ := fol_iff.mp hf
  have hwR : Wk R tie.1 tie.2.1 w := hwk.imp fun f l a z => (h.hR _ _ _).mpr (.inl z)
  have hge := (h.cl.of h.tin.1 hl).2 _ hwR
  have e : w = tie.2.2 := by omega
  have hself := h.cl.self h.tin.2.1
  have e0 : tie.1 ≠ tie.2.1 := fun z => by
    have := h.ne z
    rw [z, hself] at hl
    have := Option.some.inj hl
    omega
  obtain ⟨h1, h2⟩ := wk_tight h hl hwk (b := 0) hself (by omega)
  refine ⟨?_, h1⟩
  rcases h2 with q | q | q | q | q
  · exact absurd q.symm e0
  · exact q
  · exact absurd rfl q.1
  · refine absurd ?_ hn
    have := q.2
    rw [e] at this
    exact this
  · exact absurd q e0
end Pu

set_option Elab.async false
set_option linter.all false
set_option maxRecDepth 100000
/-! ties that stay where needless ones are left out, and the plan of closed sums -/
namespace Pu
open PySem PySem.Spec PyProof.Rows L2
/-! ### ties that stay -/
def pick (ties : List LRow) (st : List Nat) : List LRow := st.filterMap fun i => ties[i]?
theorem mem_pick {ties : List LRow} {st : List Nat} {t : LRow} : t ∈ pick ties st ↔ ∃ i ∈ st, ties[i]? = some t := by
  unfold pick
  rw [List.mem_filterMap]
noncomputable def stN (ties free : List LRow) : Nat → List Nat
  | 0 => List.range ties.length
  | j + 1 => match ties[ties.length - 1 - j]? with
    | some t => if fol (pick ties ((stN ties free j).filter fun i => decide (i ≠ ties.length - 1 - j)) ++ free) t = true then (stN ties free j).filter fun i => decide (i ≠ ties.length - 1 - j) else stN ties free j
    | none => stN ties free j
def Cov (R R' : Str → Str → Int → Prop) : Prop := ∀ f l a, R f l a → ∃ w, w ≤ a ∧ Wk R' f l w
theorem Cov.wk {R R' : Str → Str → Int → Prop} (h : Cov R R') {f l : Str} {w : Int} (hw : Wk R f l w) : ∃ u, u ≤ w ∧ Wk R' f l u := by
  induction hw with
  | nil => exact ⟨0, Int.le_refl _, .nil⟩
  | snoc _ r ih =>
    obtain ⟨u, hu, hk⟩ := ih
    obtain ⟨v, hv, hk2⟩ := h _ _ _ r
    exact ⟨u + v, by omega, hk.app hk2⟩
theorem ClS.sub {ps : List Str} {S : Str → Str → Option Int} {R R' : Str → Str → Int → Prop} (h : ClS ps S R) (hs : ∀ f l a, R' f l a → R f l a) (c : Cov R R') : ClS ps S R' := by
  refine ⟨fun f hf l v => ?_, fun f l a r => h.nn _ _ _ (hs _ _ _ r), fun f l a r => h.rin _ _ _ (hs _ _ _ r)⟩
  rw [h.d f hf l v]
  constructor
  · rintro ⟨h1, h2⟩
    obtain ⟨u, hu, hk⟩ := c.wk h1
    have := h2 _ (hk.imp hs)
    have e : u = v := by omega
    exact ⟨e ▸ hk, fun w hw => h2 w (hw.imp hs)⟩
  · rintro ⟨h1, h2⟩
    refine ⟨h1.imp hs, fun w hw => ?_⟩
    obtain ⟨u, hu, hk⟩ := c.wk hw
    have := h2 u hk
    omega
theorem fol_mono {a b : List LRow} {t : LRow} (h : ∀ x ∈ a, x ∈ b) (hf : fol a t = true) : fol b t = true := by
  rw [fol_iff] at *
  obtain ⟨w, hw, hk⟩ := hf
  exact ⟨w, hw, hk.imp fun f l a r => h _ r⟩
structure StOk (ties free : List LRow) (j : Nat) : Prop where
  nd : (stN ties free j).Nodup
  lt : ∀ i ∈ stN ties free j, i < ties.length
  rest : ∀ i, i < ties.length - j → i ∈ stN ties free j
  cov : Cov (RowL (ties ++ free)) (RowL (pick ties (stN ties free j) ++ free))
  keep : ∀ i ∈ stN ties free j, ties.length - j ≤ i → ∀ t, ties[i]? = some t → fol (pick ties ((stN ties free j).filter fun k => decide (k ≠ i)) ++ free) t = false
theorem mem_pickF {ties free : List LRow} {st : List Nat} {p : Nat → Bool} {t : LRow} (h : t ∈ pick ties (st.filter p) ++ free) : t ∈ pick ties st ++ free := by
  rcases List.mem_append.mp h with h | h
  · obtain ⟨i, hi, e⟩ := mem_pick.mp h
    exact List.mem_append_left _ (mem_pick.mpr ⟨i, (List.mem_filter.mp hi).1, e⟩)
  · exact List.mem_append_right _ h
theorem mem_pickN {ties free : List LRow} {st : List Nat} {i : Nat} {t x : LRow} (ht : ties[i]? = some t) (h : x ∈ pick ties st ++ free) : x ∈ pick ties (st.filter fun k => decide (k ≠ i)) ++ free ∨ x = t := by
  rcases List.mem_append.mp h with h | h
  · obtain ⟨k, hk, e⟩ := mem_pick.mp h
    by_cases z : k = i
    · rw [z, ht] at e
      exact .inr (Option.some.inj e).symm
    · exact .inl (List.mem_append_left _ (mem_pick.mpr ⟨k, List.mem_filter.mpr ⟨hk, decide_eq_true z⟩, e⟩))
  · exact .inl (List.mem_append_right _ h)
theorem pick_all {ties free : List LRow} {t : LRow} (h : t ∈ ties ++ free) : t ∈ pick ties (List.range ties.length) ++ free := by
  rcases List.mem_append.mp h with h | h
  · obtain ⟨i, hi, e⟩ := List.getElem_of_mem h
    exact List.mem_append_left _ (mem_pick.mpr ⟨i, List.mem_range.mpr hi, by rw [List.getElem?_eq_getElem hi, e]⟩)
  · exact List.mem_append_right _ h
theorem st_ok (ties free : List LRow) : ∀ j, j ≤ ties.length → StOk ties free j
  | 0, _ => by
    refine ⟨List.nodup_range, fun i hi => List.mem_range.mp hi, fun i hi => List.mem_range.mpr hi, fun f l a r => ⟨a, Int.le_refl _, .one (pick_all r)⟩, fun i hi hge t ht => ?_⟩
    have : i < ties.length := List.mem_range.mp hi
    omega
  | j + 1, hj => by
    obtain ⟨nd, lt, rest, cov, keep⟩ := st_ok ties free j (by omega)
    have hlt : ties.length - 1 - j < ties.length := by omega
    have ht : ties[ties.length - 1 - j]? = some ties[ties.length - 1 - j] := List.getElem?_eq_getElem hlt
    by_cases hf : fol (pick ties ((stN ties free j).filter fun i => decide (i ≠ ties.length - 1 - j)) ++ free) ties[ties.length - 1 - j] = true
    · have e : stN ties free (j + 1) = (stN ties free j).filter fun i => decide (i ≠ ties.length - 1 - j) := by
        show (match ties[ties.length - 1 - j]? with | some t => _ | none => _) = _
        rw [ht]
        exact if_pos hf
      rw [fol_iff] at hf
      refine ⟨?_, ?_, ?_, ?_, ?_⟩
      · rw [e]; exact nd.filter _
      · rw [e]; exact fun i hi => lt i (List.mem_filter.mp hi).1
      · rw [e]
        intro i hi
        exact List.mem_filter.mpr ⟨rest i (by omega), decide_eq_true (by omega)⟩
      · rw [e]
        intro f l a r
        obtain ⟨w, hw, hk⟩ := cov f l a r
        have c2 : Cov (RowL (pick ties (stN ties free j) ++ free)) (RowL (pick ties ((stN ties free j).filter fun i => decide (i ≠ ties.length - 1 - j)) ++ free)) := fun f l a r => by
          rcases mem_pickN ht r with q | q
          · exact ⟨a, Int.le_refl _, .one q⟩
          · obtain ⟨u, hu, hk⟩ := hf
            rw [← q] at hu hk
            exact ⟨u, hu, hk⟩
        obtain ⟨u, hu, hk2⟩ := c2.wk hk
        exact ⟨u, by omega, hk2⟩
      · rw [e]
        intro i hi hge t hti
        obtain ⟨hi1, hi2⟩ := List.mem_filter.mp hi
        have hi2 := of_decide_eq_true hi2
        have hk := keep i hi1 (by omega) t hti
        refine Bool.eq_false_iff.mpr fun z => ?_
        refine absurd (fol_mono (fun x hx => ?_) z) (by rw [hk]; decide)
        rcases List.mem_append.mp hx with hx | hx
        · obtain ⟨k, hk1, hk2⟩ := mem_pick.mp hx
          obtain ⟨a1, a2⟩ := List.mem_filter.mp hk1
          exact List.mem_append_left _ (mem_pick.mpr ⟨k, List.mem_filter.mpr ⟨(List.mem_filter.mp a1).1, a2⟩, hk2⟩)
        · exact List.mem_append_right _ hx
    · have e : stN ties free (j + 1) = stN ties free j := by
        show (match ties[ties.length - 1 - j]? with | some t => _ | none => _) = _
        rw [ht]
        exact if_neg hf
      refine ⟨by rw [e]; exact nd, by rw [e]; exact lt, fun i hi => by rw [e]; exact rest i (by omega), by rw [e]; exact cov, ?_⟩
      rw [e]
      intro i hi hge t hti
      by_cases z : i = ties.length - 1 - j
      · subst z
        rw [ht] at hti
        cases hti
        exact Bool.eq_false_iff.mpr hf
      · exact keep i hi (by omega) t hti
theorem st_fol {ps : List Str} {S : Str → Str → Option Int} {ties free : List LRow} (hS : ClS ps S (RowL (ties ++ free))) (hne : ∀ t ∈ ties, t.1 = t.2.1 → 0 < t.2.2) {j : Nat} (hj : j < ties.length) {t : LRow} (ht : ties[ties.length - 1 - j]? = some t) :
    FolOk ps S (RowL (pick ties (stN ties free j) ++ free)) (pick ties ((stN ties free j).filter fun i => decide (i ≠ ties.length - 1 - j)) ++ free) t := by
  have h := st_ok ties free j (by omega)
  refine ⟨hS.sub (fun f l a r => ?_) h.cov, fun f l a => ⟨fun r => mem_pickN ht r, fun r => ?_⟩, hne t (List.mem_of_getElem? ht)⟩
  · rcases List.mem_append.mp r with r | r
    · obtain ⟨i, _, e⟩ := mem_pick.mp r
      exact List.mem_append_left _ (List.mem_of_getElem? e)
    · exact List.mem_append_right _ r
  · rcases r with r | r
    · exact mem_pickF r
    · rw [show RowL (pick ties (stN ties free j) ++ free) f l a = ((f, l, a) ∈ pick ties (stN ties free j) ++ free) from rfl, r]
      exact List.mem_append_left _ (mem_pick.mpr ⟨_, h.rest _ (by omega), ht⟩)
/-! ### the plan of closed sums -/
section
variable {o : Str}
structure ClP (o : Str) (evs : List Str) (S : Str → Str → Option Int) : Prop where
  no : o ∉ evs
  nd : evs.Nodup
  dom : ∀ f ∈ o :: evs, ∀ l v, S f l = some v → l ∈ o :: evs ∧ 0 ≤ v
  self : ∀ f ∈ o :: evs, S f f = some 0
  tri : ∀ f ∈ o :: evs, ∀ k ∈ o :: evs, ∀ l a b, S f k = some a → S k l = some b → ∃ v, S f l = some v ∧ v ≤ a + b
  back : ∀ e ∈ evs, S e o = some 0
  noz : ∀ e ∈ evs, ∀ l ∈ evs, e ≠ l → S e l = some 0 → S l e = some 0 → S o e = some 0
def pairsOf (evs : List Str) : List (Str × Str) := evs.flatMap fun e => (evs.filter fun l => decide (e ≠ l)).map fun l => (e, l)
def toldOf (evs : List Str) (S : Str → Str → Option Int) : List LRow := (pairsOf evs).filterMap fun p => (S p.1 p.2).map fun v => (p.1, p.2, v)
def aboveB (g : Option Int) (b : Int) : Bool := match g with
  | none => true
  | some v => decide (b < v)
def tiesOf (o : Str) (evs : List Str) (S : Str → Str → Option Int) : List LRow := (toldOf evs S).filter fun t => aboveB (S o t.2.1) t.2.2
def capsOf (o : Str) (evs : List Str) (S : Str → Str → Option Int) : List (Str × Int) := evs.filterMap fun e => (S o e).map fun v => (e, v)
def freeR (o : Str) (evs : List Str) (caps : List (Str × Int)) : List LRow := caps.map (fun c => (o, c.1, c.2)) ++ evs.map fun e => (e, o, (0 : Int))
theorem mem_pairs {evs : List Str} {e l : Str} : (e, l) ∈ pairsOf evs ↔ e ∈ evs ∧ l ∈ evs ∧ e ≠ l := by
  unfold pairsOf
  rw [List.mem_flatMap]
  constructor
  · rintro ⟨x, hx, h⟩
    obtain ⟨y, hy, q⟩ := List.mem_map.mp h
    cases q
    obtain ⟨h1, h2⟩ := List.mem_filter.mp hy
    exact ⟨hx, h1, of_decide_eq_true h2⟩
  · rintro ⟨h1, h2, h3⟩
    exact ⟨e, h1, List.mem_map.mpr ⟨l, List.mem_filter.mpr ⟨h2, decide_eq_true h3⟩, rfl⟩⟩
theorem mem_told {evs : List Str} {S : Str → Str → Option Int} {e l : Str} {v : Int} : (e, l, v) ∈ toldOf evs S ↔ e ∈ evs ∧ l ∈ evs ∧ e ≠ l ∧ S e l = some v := by
  unfold toldOf
  rw [List.mem_filterMap]
  constructor
  · rintro ⟨⟨x, y⟩, hp, h⟩
    obtain ⟨h1, h2, h3⟩ := mem_pairs.mp hp
    have h : (S x y).map (fun v => (x, y, v)) = some (e, l, v) := h
    cases q : S x y with
    | none => rw [q] at h; cases h
    | some u =>
      rw [q] at h
      cases h
      exact ⟨h1, h2, h3, q⟩
  · rintro ⟨h1, h2, h3, h4⟩
    exact ⟨(e, l), mem_pairs.mpr ⟨h1, h2, h3⟩, by show (S e l).map (fun v => (e, l, v)) = _; rw [h4]; rfl⟩
theorem mem_capsO {evs : List Str} {S : Str → Str → Option Int} {e : Str} {v : Int} : (e, v) ∈ capsOf o evs S ↔ e ∈ evs ∧ S o e = some v := by
  unfold capsOf
  rw [List.mem_filterMap]
  constructor
  · rintro ⟨x, hx, h⟩
    cases q : S o x with
    | none => rw [q] at h; cases h
    | some u =>
      rw [q] at h
      cases h
      exact ⟨hx, q⟩
  · rintro ⟨h1, h2⟩
    exact ⟨e, h1, by rw [h2]; rfl⟩
theorem mem_free {evs : List Str} {S : Str → Str → Option Int} {f l : Str} {a : Int} : (f, l, a) ∈ freeR o evs (capsOf o evs S) ↔ (f = o ∧ l ∈ evs ∧ S o l = some a) ∨ (f ∈ evs ∧ l = o ∧ a = 0) := by
  unfold freeR
  rw [List.mem_append, List.mem_map, List.mem_map]
  constructor
  · rintro (⟨⟨x, v⟩, h, e⟩ | ⟨x, h, e⟩)
    · cases e
      exact .inl ⟨rfl, mem_capsO.mp h⟩
    · cases e
      exact .inr ⟨h, rfl, rfl⟩
  · rintro (⟨rfl, h1, h2⟩ | ⟨h1, rfl, rfl⟩)
    · exact .inl ⟨(l, a), mem_capsO.mpr ⟨h1, h2⟩, rfl⟩
    · exact .inr ⟨f, h1, rfl⟩
theorem mem_ties {evs : List Str} {S : Str → Str → Option Int} {e l : Str} {v : Int} : (e, l, v) ∈ tiesOf o evs S ↔ (e ∈ evs ∧ l ∈ evs ∧ e ≠ l ∧ S e l = some v) ∧ aboveB (S o l) v = true := by
  unfold tiesOf
  rw [List.mem_filter, mem_told]
theorem rows_le {evs : List Str} {S : Str → Str → Option Int} (h : ClP o evs S) {f l : Str} {a : Int} (hr : (f, l, a) ∈ tiesOf o evs S ++ freeR o evs (capsOf o evs S)) : S f l = some a ∧ f ∈ o :: evs ∧ l ∈ o :: evs := by
  rcases List.mem_append.mp hr with hr | hr
  · obtain ⟨⟨h1, h2, _, h4⟩, _⟩ := mem_ties.mp hr
    exact ⟨h4, List.mem_cons_of_mem _ h1, List.mem_cons_of_mem _ h2⟩
  · rcases mem_free.mp hr with ⟨rfl, h1, h2⟩ | ⟨h1, rfl, rfl⟩
    · exact ⟨h2, List.mem_cons_self .., List.mem_cons_of_mem _ h1⟩
    · exact ⟨h.back f h1, List.mem_cons_of_mem _ h1, List.mem_cons_self ..⟩
theorem rows_cl {evs : List Str} {S : Str → Str → Option Int} (h : ClP o evs S) : ClS (o :: evs) S (RowL (tiesOf o evs S ++ freeR o evs (capsOf o evs S))) := by
  have up : ∀ f ∈ o :: evs, ∀ {l : Str} {w : Int}, Wk (RowL (tiesOf o evs S ++ freeR o evs (capsOf o evs S))) f l w → ∃ v, S f l = some v ∧ v ≤ w := by
    intro f hf l w hw
    induction hw with
    | nil => exact ⟨0, h.self f hf, Int.le_refl _⟩
    | @snoc k l a b _ r ih =>
      obtain ⟨u, hu, hle⟩ := ih
      obtain ⟨h1, h2, h3⟩ := rows_le h r
      obtain ⟨v, hv, hl2⟩ := h.tri f hf k h2 l u b hu h1
      exact ⟨v, hv, by omega⟩
  have dn : ∀ f ∈ o :: evs, ∀ l v, S f l = some v → Wk (RowL (tiesOf o evs S ++ freeR o evs (capsOf o evs S))) f l v := by
    intro f hf l v hv
    obtain ⟨hl, h0⟩ := h.dom f hf l v hv
    by_cases e : f = l
    · subst e
      rw [h.self f hf] at hv
      cases hv
      exact .nil
    rcases List.mem_cons.mp hf with rfl | hfe
    · rcases List.mem_cons.mp hl with rfl | hl
      · exact absurd rfl e
      · exact .one (List.mem_append_right _ (mem_free.mpr (.inl ⟨rfl, hl, hv⟩)))
    · rcases List.mem_cons.mp hl with rfl | hl
      · rw [h.back f hfe] at hv
        cases hv
        exact .one (List.mem_append_right _ (mem_free.mpr (.inr ⟨hfe, rfl, rfl⟩)))
      · cases ha : aboveB (S o l) v with
        | true => exact .one (List.mem_append_left _ (mem_ties.mpr ⟨⟨hfe, hl, e, hv⟩, ha⟩))
        | false =>
          cases hc : S o l with
          | none => rw [hc] at ha; cases ha
          | some c =>
            rw [hc] at ha
            have hcv : c ≤ v := by
              have := of_decide_eq_false ha
              omega
            have w1 : Wk (RowL (tiesOf o evs S ++ freeR o evs (capsOf o evs S))) f l (0 + c) := (Wk.one (show RowL _ f o 0 from List.mem_append_right _ (mem_free.mpr (.inr ⟨hfe, rfl, rfl⟩)))).snoc (List.mem_append_right _ (mem_free.mpr (.inl ⟨rfl, hl, hc⟩)))
            obtain ⟨u, hu, hle⟩ := up f hf w1
            rw [hv] at hu
            cases hu
            have : v = 0 + c := by omega
            rw [this]
            exact w1
  refine ⟨fun f hf l v => ⟨fun hv => ⟨dn f hf l v hv, fun w hw => ?_⟩, fun hd => ?_⟩, fun f l a r => ?_, fun f l a r => (rows_le h r).2⟩
  · obtain ⟨u, hu, hle⟩ := up f hf hw
    rw [hv] at hu
    cases hu
    exact hle
  · obtain ⟨u, hu, hle⟩ := up f hf hd.1
    have := hd.2 u (dn f hf l u hu)
    rw [hu]
    exact congrArg some (by omega)
  · obtain ⟨h1, h2, h3⟩ := rows_le h r
    exact (h.dom f h2 l a h1).2
theorem ties_ne {evs : List Str} {S : Str → Str → Option Int} : ∀ t ∈ tiesOf o evs S, t.1 ≠ t.2.1 := by
  rintro ⟨e, l, v⟩ ht
  exact (mem_ties.mp ht).1.2.2.1
/-- no ring of ties with the lag 0 -/
theorem ties_up {evs : List Str} {S : Str → Str → Option Int} (h : ClP o evs S) : ∃ ρ : Str → Nat, ∀ t ∈ tiesOf o evs S, t.2.2 = 0 → ρ t.1 < ρ t.2.1 := by
  refine ⟨fun x => (evs.filter fun y => decide (S y x = some 0)).length, ?_⟩
  rintro ⟨e, l, v⟩ ht hv
  have hv : v = 0 := hv
  subst hv
  obtain ⟨⟨he, hl, hne, hs⟩, ha⟩ := mem_ties.mp ht
  have mc : ∀ {x}, x ∈ evs → x ∈ o :: evs := fun h => List.mem_cons_of_mem _ h
  show (evs.filter fun y => decide (S y e = some 0)).length < (evs.filter fun y => decide (S y l = some 0)).length
  refine filter_lt (fun y hy hz => ?_) ⟨l, hl, ?_, decide_eq_true (h.self l (mc hl))⟩
  · have hz := of_decide_eq_true hz
    obtain ⟨u, hu, hle⟩ := h.tri y (mc hy) e (mc he) l 0 0 hz hs
    have := (h.dom y (mc hy) l u hu).2
    have e0 : u = 0 := by omega
    rw [e0] at hu
    exact decide_eq_true hu
  · refine decide_eq_false fun z => ?_
    have hz := h.noz e he l hl hne hs z
    obtain ⟨u, hu, hle⟩ := h.tri o (List.mem_cons_self ..) e (mc he) l 0 0 hz hs
    have hu0 := (h.dom o (List.mem_cons_self ..) l u hu).2
    rw [hu] at ha
    have ha : 0 < u := of_decide_eq_true ha
    omega
theorem pairs_len : ∀ {evs : List Str}, evs.Nodup → (pairsOf evs).length ≤ evs.length * (evs.length - 1) := by
  intro evs nd
  have h1 : ∀ e ∈ evs, (evs.filter fun l => decide (e ≠ l)).length ≤ evs.length - 1 := fun e he => by
    have : (evs.filter fun l => decide (e ≠ l)).length < evs.length := List.length_filter_lt_length_iff_exists.mpr ⟨e, he, by simp⟩
    omega
  have h2 : ∀ xs : List Str, (∀ x ∈ xs, x ∈ evs) → (xs.flatMap fun e => (evs.filter fun l => decide (e ≠ l)).map fun l => (e, l)).length ≤ xs.length * (evs.length - 1) := by
    intro xs
    induction xs with
    | nil => intro _; simp
    | cons x xs ih =>
      intro hx
      rw [List.flatMap_cons, List.length_append, List.length_map, List.length_cons, Nat.succ_mul]
      have := ih fun y hy => hx y (List.mem_cons_of_mem _ hy)
      have := h1 x (hx x (List.mem_cons_self ..))
      omega
  exact h2 evs fun _ h => h
theorem ties_len {evs : List Str} {S : Str → Str → Option Int} (nd : evs.Nodup) (h8 : evs.length ≤ 8) : (toldOf evs S).length ≤ 56 ∧ (tiesOf o evs S).length ≤ 56 := by
  have h1 := pairs_len nd
  have h2 : evs.length * (evs.length - 1) ≤ 8 * 7 := Nat.mul_le_mul h8 (by omega)
  have h3 : (toldOf evs S).length ≤ (pairsOf evs).length := List.length_filterMap_le ..
  have h4 : (tiesOf o evs S).length ≤ (toldOf evs S).length := List.length_filter_le ..
  omega
noncomputable def stayT (o : Str) (evs : List Str) (S : Str → Str → Option Int) : List Nat := stN (tiesOf o evs S) (freeR o evs (capsOf o evs S)) (tiesOf o evs S).length
theorem stay_cl {evs : List Str} {S : Str → Str → Option Int} (h : ClP o evs S) : ClS (o :: evs) S (RowL (pick (tiesOf o evs S) (stayT o evs S) ++ freeR o evs (capsOf o evs S))) := by
  refine (rows_cl h).sub (fun f l a r => ?_) (st_ok _ _ _ (Nat.le_refl _)).cov
  rcases List.mem_append.mp r with r | r
  · obtain ⟨i, _, e⟩ := mem_pick.mp r
    exact List.mem_append_left _ (List.mem_of_getElem? e)
  · exact List.mem_append_right _ r
theorem pick_len (ties : List LRow) (st : List Nat) : (pick ties st).length ≤ st.length := List.length_filterMap_le ..
theorem pick_get {ties : List LRow} : ∀ {st : List Nat}, (∀ i ∈ st, i < ties.length) → (pick ties st).length = st.length ∧ ∀ (p i : Nat), st[p]? = some i → (pick ties st)[p]? = ties[i]?
  | [], _ => ⟨rfl, fun p i h => by simp at h⟩
  | k :: st, h => by
    have hk : k < ties.length := h k (List.mem_cons_self ..)
    have e : pick ties (k :: st) = ties[k] :: pick ties st := by
      unfold pick
      rw [List.filterMap_cons, List.getElem?_eq_getElem hk]
    obtain ⟨h1, h2⟩ := pick_get (ties := ties) (st := st) fun i hi => h i (List.mem_cons_of_mem _ hi)
    rw [e]
    refine ⟨by rw [List.length_cons, List.length_cons, h1], fun p i hp => ?_⟩
    cases p with
    | zero =>
      have hp : some k = some i := hp
      cases hp
      exact (List.getElem?_eq_getElem hk).symm
    | succ p => exact h2 p i hp
/-- none of the ties that stay follows from all others -/
theorem stay_min {evs : List Str} {S : Str → Str → Option Int} {p : Nat} {t : LRow} (hp : (pick (tiesOf o evs S) (stayT o evs S))[p]? = some t) :
    fol ((pick (tiesOf o evs S) (stayT o evs S)).take p ++ (pick (tiesOf o evs S) (stayT o evs S)).drop (p + 1) ++ freeR o evs (capsOf o evs S)) t = false := by
  have h := st_ok (tiesOf o evs S) (freeR o evs (capsOf o evs S)) _ (Nat.le_refl _)
  obtain ⟨h1, h2⟩ := pick_get h.lt
  have hpl : p < (stayT o evs S).length := by
    have : p < (pick (tiesOf o evs S) (stayT o evs S)).length := (List.getElem?_eq_some_iff.mp hp).1
    unfold stayT at *
    omega
  have hi : (stayT o evs S)[p]? = some (stayT o evs S)[p] := List.getElem?_eq_getElem hpl
  have hti := h2 p _ hi
  have hpt : (pick (tiesOf o evs S) (stN (tiesOf o evs S) (freeR o evs (capsOf o evs S)) (tiesOf o evs S).length))[p]? = some t := hp
  rw [hpt] at hti
  have hk := h.keep _ (List.mem_of_getElem? hi) (by omega) t hti.symm
  refine Bool.eq_false_iff.mpr fun z => absurd (fol_mono (fun x hx => ?_) z) (by rw [hk]; decide)
  have key : ∀ q, q ≠ p → ∀ y, (pick (tiesOf o evs S) (stayT o evs S))[q]? = some y → y ∈ pick (tiesOf o evs S) ((stayT o evs S).filter fun k => decide (k ≠ (stayT o evs S)[p])) ++ freeR o evs (capsOf o evs S) := by
    intro q hq y hy
    have hql : q < (stayT o evs S).length := by
      have : q < (pick (tiesOf o evs S) (stayT o evs S)).length := (List.getElem?_eq_some_iff.mp hy).1
      unfold stayT at *
      omega
    have hiq : (stayT o evs S)[q]? = some (stayT o evs S)[q] := List.getElem?_eq_getElem hql
    have e := h2 q _ hiq
    have hy' : (pick (tiesOf o evs S) (stN (tiesOf o evs S) (freeR o evs (capsOf o evs S)) (tiesOf o evs S).length))[q]? = some y := hy
    rw [hy'] at e
    refine List.mem_append_left _ (mem_pick.mpr ⟨(stayT o evs S)[q], List.mem_filter.mpr ⟨List.getElem_mem hql, decide_eq_true fun z => hq ?_⟩, e.symm⟩)
    exact (List.getElem_inj (h.nd : (stayT o evs S).Nodup)).mp z
  rcases List.mem_append.mp hx with hx | hx
  · rcases List.mem_append.mp hx with hx | hx
    · obtain ⟨q, hq, e⟩ := List.getElem_of_mem hx
      rw [List.getElem_take] at e
      rw [List.length_take] at hq
      exact key q (by omega) x (by rw [← e]; exact List.getElem?_eq_getElem _)
    · obtain ⟨q, hq, e⟩ := List.getElem_of_mem hx
      rw [List.getElem_drop] at e
      exact key (p + 1 + q) (by omega) x (by rw [← e]; exact List.getElem?_eq_getElem _)
  · exact List.mem_append_right _ hx
end
end Pu

set_option Elab.async false
set_option linter.all false
set_option maxRecDepth 100000
set_option maxHeartbeats 4000000
/-! lists of strings that are held against one another; strings of a list of values -/
namespace Pu
open PySem PySem.Spec PyProof.Rows L2
section
variable {K : PySem.W.Frag} {H : Hp}
theorem strs_ansd {n : Nat} : ∀ {es : List Str}, ∃ rs : List Bool, Ansd (EqB K H (n + 1)) (es.map V.str) (es.map V.str) rs ∧ rs.all id = true
  | [] => ⟨[], .nil, rfl⟩
  | e :: r => by
    obtain ⟨rs, h1, h2⟩ := strs_ansd (n := n) (es := r)
    exact ⟨true :: rs, .cons (eqb_refl rfl) h1, by rw [List.all_cons, h2]; rfl⟩
theorem strs_eq {n : Nat} {a b : Addr} {es : List Str} (h : SqL K H a (es.map V.str)) (h' : SqL K H b (es.map V.str)) : RcB K H (EqB K H (n + 1)) (.ref a) (.ref b) true := by
  obtain ⟨rs, h1, h2⟩ := strs_ansd (K := K) (H := H) (n := n) (es := es)
  exact ⟨a, b, rfl, rfl, fun _ => rfl, .inl ⟨_, _, rs, h, h', h1, h2.symm⟩⟩
theorem nil_eq {n : Nat} {a b : Addr} {es : List Str} (h : H a = some (.lst (es.map V.str))) (h' : H b = some (.lst [])) : RcB K H (EqB K H (n + 1)) (.ref a) (.ref b) (decide (es = [])) := by
  cases es with
  | nil => exact ⟨a, b, rfl, rfl, fun _ => rfl, .inl ⟨[], [], [], .inl (.inl h), .inl (.inl h'), .nil, rfl⟩⟩
  | cons e r =>
    refine ⟨a, b, rfl, rfl, fun z => ?_, .inr (.inl ⟨_, _, .inl (.inl h), .inl (.inl h'), ?_, rfl⟩)⟩
    · rw [z, h'] at h
      cases h
    · rw [List.length_map]
      exact fun z => by cases z
theorem strsOf {p : Str → Prop} : ∀ {ys : List V}, (∀ (k : Nat) (y : V), ys[k]? = some y → ∃ e, y = V.str e ∧ p e) → ∃ es : List Str, ys = es.map V.str ∧ ∀ e ∈ es, p e
  | [], _ => ⟨[], rfl, fun _ h => absurd h List.not_mem_nil⟩
  | y :: ys, h => by
    obtain ⟨e, rfl, he⟩ := h 0 y rfl
    obtain ⟨es, rfl, hs⟩ := strsOf (ys := ys) fun k z hz => h (k + 1) z hz
    exact ⟨e :: es, rfl, fun x hx => by
      rcases List.mem_cons.mp hx with rfl | hx
      · exact he
      · exact hs x hx⟩
end
end Pu

set_option Elab.async false
set_option linter.all false
set_option maxRecDepth 100000
/-! where there is no way, there is nothing but the place itself -/
namespace Pu
open PySem PySem.Spec PyProof.Rows L2
def NoWay (ps : List Str) (Z : Str → SR × WR) : Prop := ∀ f ∈ ps, ∀ l v, sOf Z f l = some v → wOf Z f l = none → f = l ∧ v = 0
theorem NoWay.begin {ps : List Str} : NoWay ps beginZ := fun f _ l v h _ => by
  have h : (if f = l then some (0 : Int) else none) = some v := h
  split at h
  · rename_i e
    cases h
    exact ⟨e, rfl⟩
  · cases h
theorem NoWay.row {ps : List Str} {Z : Str → SR × WR} (h : NoWay ps Z) (r : TRow) : NoWay ps (rowZ Z r) := fun f hf l v hs hw => by
  rcases row_key Z r f l with ⟨_, _, _, _, h2⟩ | ⟨h1, h2⟩
  · rw [h2] at hw
    cases hw
  · rw [h1] at hs
    rw [h2] at hw
    exact h f hf l v hs hw
theorem NoWay.rows {ps : List Str} : ∀ {rs : List TRow} {Z : Str → SR × WR}, NoWay ps Z → NoWay ps (rs.foldl rowZ Z)
  | [], _, h => h
  | r :: rs, _, h => NoWay.rows (rs := rs) (h.row r)
theorem NoWay.phase {ps P : List Str} {Z : Str → SR × WR} (h : NoWay ps Z) (I : SInv ps P Z) {m : Str} (hm : m ∈ ps) : NoWay ps (phaseZ m ps Z) := fun f hf l v hs hw => by
  rcases phase_get I hm hf l with ⟨_, _, _, _, _, _, h2⟩ | ⟨_, h1, h2⟩
  · rw [h2] at hw
    cases hw
  · rw [h1] at hs
    rw [h2] at hw
    exact h f hf l v hs hw
theorem close_noway {ps : List Str} (nd : ps.Nodup) {Z : Str → SR × WR} (I : SInv ps [] Z) (h : NoWay ps Z) : ∀ n, n ≤ ps.length → NoWay ps (closeZ ps n Z)
  | 0, _ => h
  | n + 1, hn => by
    have hn : n < ps.length := hn
    have e : ps[n]? = some ps[n] := List.getElem?_eq_getElem hn
    rw [close_step e]
    exact (close_noway nd I h n (Nat.le_of_lt hn)).phase (close_inv nd I n (Nat.le_of_lt hn)) (List.getElem_mem hn)
theorem all_noway {ps : List Str} (nd : ps.Nodup) {rs : List TRow} (h : ∀ r ∈ rs, r.1 ∈ ps ∧ r.2.1 ∈ ps ∧ 0 ≤ r.2.2.1) : NoWay ps (allZ ps rs) :=
  close_noway nd (rows_inv (begin_inv ps) h) (NoWay.rows NoWay.begin) ps.length (Nat.le_refl _)
/-- rows one behind another -/
inductive PPath {α : Type} (R : α → Prop) (b e : α → Str) (a : α → Int) : Str → Str → Int → List α → Prop
  | nil {f : Str} : PPath R b e a f f 0 []
  | cons {f l : Str} {v : Int} {r : α} {rs : List α} : R r → b r = f → PPath R b e a (e r) l v rs → PPath R b e a f l (a r + v) (r :: rs)
theorem PPath.app {α : Type} {R : α → Prop} {b e : α → Str} {a : α → Int} {f m l : Str} {v w : Int} {rs ss : List α} (h : PPath R b e a f m v rs) (h2 : PPath R b e a m l w ss) : PPath R b e a f l (v + w) (rs ++ ss) := by
  induction h with
  | nil => rw [Int.zero_add]; exact h2
  | cons h3 h4 _ ih =>
    rw [Int.add_assoc]
    exact .cons h3 h4 (ih h2)
theorem paired_app {α β : Type} {R : α → β → Prop} {xs xs' : List α} {ys ys' : List β} (h : Paired R xs ys) (h2 : Paired R xs' ys') : Paired R (xs ++ xs') (ys ++ ys') := by
  induction h with
  | nil => exact h2
  | cons r _ ih => exact .cons r ih
/-- the rows of a way make a path that adds up to the sum -/
theorem between_path {α : Type} {R : α → Prop} {b e : α → Str} {a : α → Int} {Q : Addr → α → Prop} {ps : List Str} {Z : Str → SR × WR} (I : SInv ps ps Z) (nw : NoWay ps Z) (hr : ∀ f ∈ ps, ∀ l t, wOf Z f l = some (.inr t) → ∃ r, R r ∧ b r = f ∧ e r = l ∧ sOf Z f l = some (a r) ∧ Q t r) :
    ∀ n, ∀ f ∈ ps, ∀ l v, sOf Z f l = some v → wi ps (wOf Z f l) < n → ∃ rs, Paired Q (between Z n f l) rs ∧ PPath R b e a f l v rs
  | 0, _, _, _, _, _, h => absurd h (Nat.not_lt_zero _)
  | n + 1, f, hf, l, v, hs, hn => by
    cases ho : wOf Z f l with
    | none =>
      obtain ⟨rfl, rfl⟩ := nw f hf l v hs ho
      exact ⟨[], by rw [between_none ho]; exact .nil, .nil⟩
    | some w =>
      cases w with
      | inr t =>
        obtain ⟨r, h1, h2, h3, h4, h5⟩ := hr f hf l t ho
        have e1 : v = a r := Option.some.inj (hs.symm.trans h4)
        refine ⟨[r], by rw [between_row ho]; exact .cons h5 .nil, ?_⟩
        have := PPath.cons (R := R) (b := b) (e := e) (a := a) (v := 0) (rs := []) (l := l) h1 h2 (by rw [h3]; exact .nil)
        rw [Int.add_zero, ← e1] at this
        exact this
      | inl k =>
        obtain ⟨hk, x, y, h1, h2, h3, w1, w2⟩ := I.mid f hf l k ho
        rw [ho] at hn
        have hn : ps.idxOf k + 1 < n + 1 := hn
        obtain ⟨rs, p1, p2⟩ := between_path I nw hr n f hf k x h1 (by omega)
        obtain ⟨ss, q1, q2⟩ := between_path I nw hr n k hk l y h2 (by omega)
        have e1 : v = x + y := Option.some.inj (hs.symm.trans h3)
        exact ⟨rs ++ ss, by rw [between_mid ho]; exact paired_app p1 q1, e1 ▸ p2.app q2⟩
end Pu

set_option Elab.async false
set_option linter.all false
set_option maxRecDepth 100000
set_option maxHeartbeats 4000000
/-! dicts of sums, and dicts of such, that are held against one another; tuples of strings -/
namespace Pu
open PySem PySem.Spec PyProof.Rows L2
theorem keyd_gen {F : V → V → Bool → Prop} {ls : List (Key × V)} (ans : Key → V → Bool) : ∀ {ks : List (Key × V)}, (∀ p ∈ ks, (valV ls p.1 = none ∧ ans p.1 p.2 = false) ∨ ∃ y, valV ls p.1 = some y ∧ F p.2 y (ans p.1 p.2)) → Keyd F ls ks (ks.all fun p => ans p.1 p.2)
  | [], _ => .nil
  | (k, x) :: r, h => by
    have t := keyd_gen ans (ks := r) fun p hp => h p (List.mem_cons_of_mem _ hp)
    rw [List.all_cons]
    rcases h (k, x) (List.mem_cons_self ..) with ⟨h1, h2⟩ | ⟨y, h1, h2⟩
    · have h2 : ans k x = false := h2
      dsimp only
      rw [h2, Bool.false_and]
      exact .miss h1
    · exact .hit h1 h2 t
def sameR (r1 r2 : SR) : Bool := decide (r1.length = r2.length) && r1.all fun c => decide (getR r2 c.1 = some c.2)
theorem getR_iff {r : SR} (nd : (r.map (·.1)).Nodup) {k : Str} {v : Int} : getR r k = some v ↔ (k, v) ∈ r := ⟨getR_mem, getR_nd nd⟩
theorem sameR_iff {r1 r2 : SR} (n1 : (r1.map (·.1)).Nodup) (n2 : (r2.map (·.1)).Nodup) : sameR r1 r2 = true ↔ ∀ l, getR r1 l = getR r2 l := by
  unfold sameR
  rw [Bool.and_eq_true_iff, decide_eq_true_iff, List.all_eq_true]
  constructor
  · rintro ⟨hl, h⟩ l
    have sub : ∀ c ∈ r1, getR r2 c.1 = some c.2 := fun c hc => of_decide_eq_true (h c hc)
    have ks : ∀ k ∈ r2.map (·.1), k ∈ r1.map (·.1) := by
      have hs : ∀ k ∈ r1.map (·.1), k ∈ r2.map (·.1) := fun k hk => by
        obtain ⟨c, hc, rfl⟩ := List.mem_map.mp hk
        exact List.mem_map_of_mem (f := (·.1)) (getR_mem (sub c hc))
      intro k hk
      by_cases z : k ∈ r1.map (·.1)
      · exact z
      · have := nodup_len (xs := k :: r1.map (·.1)) (ys := r2.map (·.1)) (List.nodup_cons.mpr ⟨z, n1⟩) fun x hx => by
          rcases List.mem_cons.mp hx with rfl | hx
          · exact hk
          · exact hs x hx
        rw [List.length_cons, List.length_map, List.length_map] at this
        omega
    refine Option.ext fun v => ?_
    rw [getR_iff n1, getR_iff n2]
    constructor
    · intro h1
      exact (getR_iff n2).mp (sub _ h1)
    · intro h2
      obtain ⟨c, hc, e⟩ := List.mem_map.mp (ks l (List.mem_map_of_mem (f := (·.1)) h2))
      have h3 := sub c hc
      have e : c.1 = l := e
      rw [e, getR_nd n2 h2] at h3
      cases h3
      rw [← e]
      exact hc
  · intro h
    refine ⟨Nat.le_antisymm ?_ ?_, fun c hc => decide_eq_true ?_⟩
    · have := nodup_len n1 (ys := r2.map (·.1)) fun k hk => by
        obtain ⟨c, hc, rfl⟩ := List.mem_map.mp hk
        exact List.mem_map_of_mem (f := (·.1)) (getR_mem ((h c.1).symm.trans (getR_nd n1 hc)))
      rw [List.length_map, List.length_map] at this
      exact this
    · have := nodup_len n2 (ys := r1.map (·.1)) fun k hk => by
        obtain ⟨c, hc, rfl⟩ := List.mem_map.mp hk
        exact List.mem_map_of_mem (f := (·.1)) (getR_mem ((h c.1).trans (getR_nd n2 hc)))
      rw [List.length_map, List.length_map] at this
      exact this
    · rw [← h]
      exact getR_nd n1 hc
theorem kvR_inj {r1 r2 : SR} (h : kvR V.int r1 = kvR V.int r2) : r1 = r2 := by
  induction r1 generalizing r2 with
  | nil =>
    cases r2 with
    | nil => rfl
    | cons c r => cases h
  | cons c r ih =>
    cases r2 with
    | nil => cases h
    | cons c2 r2 =>
      obtain ⟨h1, h2⟩ := List.cons.inj h
      obtain ⟨a, b⟩ := c
      obtain ⟨a2, b2⟩ := c2
      have h1 : ((Sum.inr a : Key), V.int b) = (.inr a2, .int b2) := h1
      cases h1
      rw [ih h2]
section
variable {K : PySem.W.Frag} {H : Hp}
theorem rows_eqB {n : Nat} {a b : Addr} {r1 r2 : SR} (n1 : (r1.map (·.1)).Nodup) (h1 : H a = some (.dK (kvR V.int r1))) (h2 : H b = some (.dK (kvR V.int r2))) : RcB K H (EqB K H (n + 1)) (.ref a) (.ref b) (sameR r1 r2) := by
  refine ⟨a, b, rfl, rfl, fun e => ?_, ?_⟩
  · rw [← e, h1] at h2
    have : r1 = r2 := kvR_inj (by injection h2 with h2; injection h2)
    rw [← this]
    exact (sameR_iff n1 n1).mpr fun _ => rfl
  · by_cases hl : r1.length = r2.length
    · refine .inr (.inr (.inr (.inl ⟨_, _, sameR r1 r2, h1, h2, by rw [kvR_len, kvR_len]; exact hl, ?_, rfl⟩)))
      have e : sameR r1 r2 = (kvR V.int r1).all fun p => (fun k x => match valV (kvR V.int r2) k with | some y => eqV x y | none => false) p.1 p.2 := by
        unfold sameR kvR
        rw [decide_eq_true hl, Bool.true_and, List.all_map]
        refine List.all_congr rfl fun c => ?_
        show decide (getR r2 c.1 = some c.2) = match valV (kvR V.int r2) (.inr c.1) with | some y => eqV (.int c.2) y | none => false
        rw [valV_kvR]
        cases hg : getR r2 c.1 with
        | none => rfl
        | some v =>
          show decide (some v = some c.2) = (c.2 == v)
          rw [Bool.eq_iff_iff, decide_eq_true_iff, beq_iff_eq]
          exact ⟨fun z => (Option.some.inj z).symm, fun z => by rw [z]⟩
      rw [e]
      refine keyd_gen (fun k x => match valV (kvR V.int r2) k with | some y => eqV x y | none => false) fun p hp => ?_
      obtain ⟨c, hc, rfl⟩ := List.mem_map.mp hp
      dsimp only
      rw [valV_kvR]
      cases hg : getR r2 c.1 with
      | none => exact .inl ⟨rfl, rfl⟩
      | some v => exact .inr ⟨.int v, rfl, eqb_flat rfl rfl⟩
    · refine .inr (.inr (.inr (.inr ⟨_, _, h1, h2, by rw [kvR_len, kvR_len]; exact hl, ?_⟩)))
      unfold sameR
      rw [decide_eq_false hl, Bool.false_and]
theorem sums_eqB {n : Nat} {ps : List Str} {sd sd' : Addr} {sa sb : Str → Addr} {Z Z' : Str → SR} (h1 : H sd = some (.dK (outV ps sa))) (h2 : H sd' = some (.dK (outV ps sb))) (r1 : ∀ f ∈ ps, H (sa f) = some (.dK (kvR V.int (Z f)))) (r2 : ∀ f ∈ ps, H (sb f) = some (.dK (kvR V.int (Z' f)))) (nd : ∀ f ∈ ps, ((Z f).map (·.1)).Nodup) :
    RcB K H (EqB K H (n + 2)) (.ref sd) (.ref sd') (ps.all fun f => sameR (Z f) (Z' f)) := by
  refine ⟨sd, sd', rfl, rfl, fun e => ?_, ?_⟩
  · rw [← e, h1] at h2
    have h2 : outV ps sa = outV ps sb := by injection h2 with h2; injection h2
    rw [List.all_eq_true]
    intro f hf
    have e2 : some (V.ref (sa f)) = some (V.ref (sb f)) := by rw [← outV_get (sa := sa) hf, h2, outV_get hf]
    have e2 : sa f = sb f := by injection e2 with e2; injection e2
    have h3 := r1 f hf
    rw [e2, r2 f hf] at h3
    have : Z' f = Z f := kvR_inj (by injection h3 with h3; injection h3)
    rw [this]
    exact (sameR_iff (nd f hf) (nd f hf)).mpr fun _ => rfl
  · refine .inr (.inr (.inr (.inl ⟨_, _, _, h1, h2, by unfold outV; rw [List.length_map, List.length_map], ?_, rfl⟩)))
    have e : (ps.all fun f => sameR (Z f) (Z' f)) = (outV ps sa).all fun p => (fun k _ => match k with | .inr f => sameR (Z f) (Z' f) | .inl _ => false) p.1 p.2 := by
      unfold outV
      rw [List.all_map]
      rfl
    rw [e]
    refine keyd_gen (fun k _ => match k with | .inr f => sameR (Z f) (Z' f) | .inl _ => false) fun p hp => ?_
    obtain ⟨f, hf, rfl⟩ := List.mem_map.mp hp
    exact .inr ⟨.ref (sb f), outV_get hf, eqb_obj (rows_eqB (nd f hf) (r1 f hf) (r2 f hf))⟩
theorem strs_ansd2 {n : Nat} : ∀ {xs ys : List Str}, xs.length = ys.length → ∃ rs : List Bool, Ansd (EqB K H (n + 1)) (xs.map V.str) (ys.map V.str) rs ∧ rs.all id = decide (xs = ys)
  | [], [], _ => ⟨[], .nil, rfl⟩
  | x :: xs, y :: ys, h => by
    obtain ⟨rs, h1, h2⟩ := strs_ansd2 (n := n) (xs := xs) (ys := ys) (Nat.succ.inj h)
    refine ⟨(x == y) :: rs, .cons (eqb_flat rfl rfl) h1, ?_⟩
    rw [List.all_cons, h2, Bool.eq_iff_iff, Bool.and_eq_true_iff, decide_eq_true_iff, decide_eq_true_iff]
    show (x == y) = true ∧ _ ↔ _
    rw [beq_iff_eq]
    exact ⟨fun z => by rw [z.1, z.2], fun z => List.cons.inj z⟩
end
def rEqTs (K : PySem.W.Frag) : R2 := fun x y H Q => ∃ (a b : Addr) (xs ys : List Str), x = .ref a ∧ y = .ref b ∧ SqT K H a (xs.map V.str) ∧ SqT K H b (ys.map V.str) ∧ xs.length = ys.length ∧ Q (.bl (decide (xs = ys))) H
theorem map_str_inj : ∀ {xs ys : List Str}, xs.map V.str = ys.map V.str → xs = ys
  | [], [], _ => rfl
  | [], _ :: _, h => nomatch h
  | _ :: _, [], h => nomatch h
  | x :: xs, y :: ys, h => by
    obtain ⟨h1, h2⟩ := List.cons.inj h
    cases h1
    rw [map_str_inj h2]
theorem op_eqTs {X : Cx} {k : Nat} (K : PySem.W.Frag) (hr : Room k X.A) (h : X.K = K := by rfl) : OpR X (compareOp .Eq) (rEqTs K) := by
  subst h
  intro pins s σ H x y v u Q I rx ry h
  obtain ⟨a, b, xs, ys, rfl, rfl, ha, hb, hl, q⟩ := h
  obtain ⟨rs, h1, h2⟩ := strs_ansd2 (K := X.K) (H := H) (n := 0) hl
  have hu := hr.units
  refine (rcB_run I (A := X.A) (r := decide (xs = ys)) (by omega) (eqB_run I 1 X.A.in1 (by show X.A.units + 1 + 1 < cLine; omega)) ⟨a, b, rfl, rfl, fun e => ?_, .inr (.inr (.inl ⟨_, _, rs, ha, hb, h1, h2.symm⟩))⟩ rx ry _ _).1 ⟨.bl (decide (xs = ys)), H, I, rfl, q⟩
  subst e
  exact decide_eq_true (map_str_inj (I.tuple_inj ha hb))
end Pu

set_option Elab.async false
set_option linter.all false
set_option maxRecDepth 100000
set_option maxHeartbeats 4000000
namespace Pu
open PySem PySem.Spec PyProof.Rows L2
/-! ### sorted texts -/
theorem risingS_pw : ∀ {l : List Str} {p : Str}, risingS p l = true → (p :: l).Pairwise fun a b => a.cps.toList ≤ b.cps.toList
  | [], p, _ => List.pairwise_singleton _ _
  | x :: r, p, h => by
    have h : (!ltCps x.cps.toList p.cps.toList && risingS x r) = true := h
    rw [Bool.and_eq_true, ltCps_eq] at h
    have h1 : p.cps.toList ≤ x.cps.toList := fun z => by
      rw [decide_eq_true z] at h
      exact Bool.noConfusion h.1
    have h2 := risingS_pw h.2
    refine List.pairwise_cons.mpr ⟨fun y hy => ?_, h2⟩
    rcases List.mem_cons.mp hy with rfl | hy
    · exact h1
    · exact List.le_trans h1 ((List.pairwise_cons.mp h2).1 y hy)
theorem sortedS_pw {l : List Str} (h : sortedS l = true) : l.Pairwise fun a b => a.cps.toList ≤ b.cps.toList := by
  cases l with
  | nil => exact .nil
  | cons x r => exact risingS_pw h
theorem sorted_uniq {a b : List Str} (ha : sortedS a = true) (hb : sortedS b = true) (h : a.Perm b) : a = b := by
  refine List.Perm.eq_of_pairwise (le := fun a b : Str => a.cps.toList ≤ b.cps.toList) (fun x y _ _ h1 h2 => ?_) (sortedS_pw ha) (sortedS_pw hb) h
  have e := List.le_antisymm h1 h2
  cases x with
  | mk x => cases y with
    | mk y =>
      have : x = y := by
        cases x; cases y
        exact congrArg _ e
      rw [this]
theorem srtS {X : Cx} (K : PySem.W.Frag) (h : X.K = K := by rfl) : CallR X (.builtin "sorted") (rSortedS K) := by
  subst h
  exact cr_sortedS
theorem minK {X : Cx} (K : PySem.W.Frag) (hc : X.calm = true := by rfl) (h : X.K = K := by rfl) : CallR X (.builtin "min") (rMin K) := by
  subst h
  exact cr_min hc
theorem empV_eq {K : PySem.W.Frag} {H : Hp} {n : Nat} {a b : Addr} {xs : List V} (h : H a = some (.lst xs)) (h' : H b = some (.lst [])) : RcB K H (EqB K H (n + 1)) (.ref a) (.ref b) (decide (xs.length = 0)) := by
  cases xs with
  | nil => exact ⟨a, b, rfl, rfl, fun _ => rfl, .inl ⟨[], [], [], .inl (.inl h), .inl (.inl h'), .nil, rfl⟩⟩
  | cons e r =>
    refine ⟨a, b, rfl, rfl, fun z => ?_, .inr (.inl ⟨_, _, .inl (.inl h), .inl (.inl h'), fun z => (nomatch z), rfl⟩)⟩
    rw [z, h'] at h
    cases h
theorem iteE {c : Bool} {A B : Prop} (hc : c = false) (h : B) : if c = true then A else B := by
  rw [hc]
  exact iteF h
theorem flt_take {α : Type} {p : α → Bool} {l : List α} {i : Nat} (h : i < l.length) (hp : p l[i] = true) : (l.take (i + 1)).filter p = (l.take i).filter p ++ [l[i]] := by
  rw [List.take_add_one, List.getElem?_eq_getElem h, List.filter_append]
  show _ ++ List.filter p [l[i]] = _
  rw [List.filter_cons, if_pos hp]
  rfl
theorem flt_skip {α : Type} {p : α → Bool} {l : List α} {i : Nat} (h : i < l.length) (hp : ¬ p l[i] = true) : (l.take (i + 1)).filter p = (l.take i).filter p := by
  rw [List.take_add_one, List.getElem?_eq_getElem h, List.filter_append]
  show _ ++ List.filter p [l[i]] = _
  rw [List.filter_cons, if_neg hp, List.filter_nil, List.append_nil]
theorem flt_len {α : Type} {p : α → Bool} {l : List α} {i : Nat} : ((l.take i).filter p).length ≤ l.length :=
  Nat.le_trans (List.length_filter_le _ _) (by rw [List.length_take]; exact Nat.min_le_right _ _)
theorem all_flt {α : Type} (p q : α → Bool) : ∀ (l : List α), (∀ a ∈ l, q a = !p a) → l.all q = decide ((l.filter p).length = 0)
  | [], _ => rfl
  | a :: r, h => by
    rw [List.all_cons, h a (List.mem_cons_self ..), all_flt p q r fun b hb => h b (List.mem_cons_of_mem _ hb), List.filter_cons]
    cases p a with
    | true =>
      rw [if_pos rfl, List.length_cons, decide_eq_false (by omega : ¬ ((r.filter p).length + 1 = 0))]
      rfl
    | false =>
      rw [if_neg (by decide)]
      rfl
end Pu

set_option Elab.async false
set_option linter.all false
set_option maxRecDepth 100000
set_option maxHeartbeats 4000000
/-! `x in list`, `x not in list` where the items are held against x one by one, with either answer -/
namespace PySem.SeqAt
open AutoSeq1 (wpAny_loadPart')
open MeetsSeq MeetsSeq2 MeetsSeq3 SeqRoads2
section
variable {P : Program} {w : World}
theorem contains_loopIn (l : Addr) (items : Array Value) (n : Nat) (dd : Option Addr) (sl : Array (Option Value)) (x : Value) (e : Nat → Bool) (k : Nat) :
    ∀ i : Nat, items.size - i = k → MeetsIn P w (Builtin.«list.__contains__.loop» ⟨[.ref l, x, rawInt i], []⟩)
      (fun A R s => s.heap.get? l = some { cls := .type "list", dict := dd, data := .seq items n, slots := sl } ∧ (∀ j (h : j < items.size), EqP P w A.in1 s items[j] x (e j)) ∧
        R (.ok (.ret (.bool (((List.range items.size).drop i).any e)))) s) := by
  induction k with
  | zero =>
    intro i hk A R s h
    obtain ⟨hp, g, d, tk, os⟩ := s; obtain ⟨hl, he, h⟩ := h
    wp_walk using wpAny_loadPart' hl
    have hi : items[((i : Nat) : Int).toNat]? = none := by simp; omega
    have hd : (List.range items.size).drop i = [] := by simp; omega
    rw [hd] at h
    rw [hi]
    wp_walk
    simpa using h
  | succ k ih =>
    intro i hk A R s h
    obtain ⟨hp, g, d, tk, os⟩ := s; obtain ⟨hl, he, h⟩ := h
    wp_walk using wpAny_loadPart' hl
    have hlt : i < items.size := by omega
    have hi : items[((i : Nat) : Int).toNat]? = some items[i] := by simp [hlt]
    have hd : (List.range items.size).drop i = i :: (List.range items.size).drop (i + 1) := by simp [List.drop_eq_getElem_cons, hlt]
    have hc : ((i : Int) + 1) = ((i + 1 : Nat) : Int) := by push_cast; rfl
    rw [hd, List.any_cons] at h
    rw [hi]
    refine wpAny_bind (he i hlt _ _ ?_)
    cases hb : e i with
    | true =>
      rw [hb] at h
      wp_walk
      simpa using h
    | false =>
      rw [hb] at h
      wp_walk
      rw [hc]
      exact ⟨plainId_quiet plain_contains_loop _, codeAny_builtin entry_contains_loop (by
        rw [Around.under_plainId plain_contains_loop _]
        exact ih (i + 1) (by omega) A R _ ⟨hl, he, by simpa using h⟩)⟩
theorem list_containsIn (l : Addr) (items : Array Value) (n : Nat) (dd : Option Addr) (sl : Array (Option Value)) (x : Value) (e : Nat → Bool) :
    MeetsIn P w (Builtin.«list.__contains__» ⟨[.ref l, x], []⟩)
      (fun A R s => s.heap.get? l = some { cls := .type "list", dict := dd, data := .seq items n, slots := sl } ∧ (∀ j (h : j < items.size), EqP P w A.in1 s items[j] x (e j)) ∧ R (.ok (.ret (.bool ((List.range items.size).any e)))) s) := by
  intro A R s h
  obtain ⟨hp, g, d, tk, os⟩ := s; obtain ⟨hl, he, h⟩ := h
  wp_walk using wpAny_loadPart' hl
  exact ⟨plainId_quiet plain_contains_loop _, codeAny_builtin entry_contains_loop (by
    rw [Around.under_plainId plain_contains_loop _]
    exact contains_loopIn l items n dd sl x e _ 0 rfl A R _ ⟨hl, he, by simpa using h⟩)⟩
theorem in_listP {A : Around} {s : Shared} {l : Addr} {items : Array Value} {x : Value} {E Q : Value → Shared → Prop} (e : Nat → Bool) (hl : s.heap.IsList l items) (he : ∀ j (h : j < items.size), EqP P w A.in1 s items[j] x (e j)) :
    (Q (.bool ((List.range items.size).any e)) s → wpAny (model P w) A (compareOp .In x (.ref l)) Q E s) ∧ (Q (.bool (!(List.range items.size).any e)) s → wpAny (model P w) A (compareOp .NotIn x (.ref l)) Q E s) := by
  obtain ⟨⟨cls, dd, data, sl⟩, ho, hc, n, hd⟩ := id hl
  simp only at hc hd
  subst hc hd
  refine ⟨fun h => ?_, fun h => ?_⟩
  · show wpAny _ A (do return .bool (← contains (.ref l) x)) Q E s
    refine wpAny_bind (wpAny_contains_slot ⟨_, ho, rfl⟩ F.slot_list_contains (wpAny_mono (call_meetsIn (Q := fun v s' => ∃ b, v = .bool b ∧ Q (.bool b) s') F.slot_list_contains ⟨_, ho, rfl⟩ F.entry_list_contains (F.args_list_contains_2 _ _) (list_containsIn l items n dd sl x e) ⟨ho, he, _, rfl, h⟩) (fun v s' hv => ?_) fun _ _ e => e))
    obtain ⟨b, rfl, hq⟩ := hv
    exact wpAny_truthy_bool (wpAny_pure hq)
  · show wpAny _ A (do return .bool (!(← contains (.ref l) x))) Q E s
    refine wpAny_bind (wpAny_contains_slot ⟨_, ho, rfl⟩ F.slot_list_contains (wpAny_mono (call_meetsIn (Q := fun v s' => ∃ b, v = .bool b ∧ Q (.bool (!b)) s') F.slot_list_contains ⟨_, ho, rfl⟩ F.entry_list_contains (F.args_list_contains_2 _ _) (list_containsIn l items n dd sl x e) ⟨ho, he, _, rfl, h⟩) (fun v s' hv => ?_) fun _ _ e => e))
    obtain ⟨b, rfl, hq⟩ := hv
    exact wpAny_truthy_bool (wpAny_pure hq)
end
end PySem.SeqAt
namespace Pu
open PySem PySem.Spec PyProof.Rows L2
/-- x in a list of things that are held against x one by one -/
def rInB (K : PySem.W.Frag) (neg : Bool) : R2 := fun x y H Q => ∃ (p : Addr) (xs : List V) (n : Nat) (bs : List Bool), y = .ref p ∧ SqL K H p xs ∧ n ≤ 60 ∧ bs.length = xs.length ∧ (∀ (j : Nat) (z : V) (b : Bool), xs[j]? = some z → bs[j]? = some b → EqB K H n z x b) ∧ Q (.bl (if neg then !bs.any id else bs.any id)) H
theorem any_getD : ∀ bs : List Bool, (List.range bs.length).any (fun j => bs.getD j false) = bs.any id
  | [] => rfl
  | r :: rs => by
    rw [List.length_cons, List.range_succ_eq_map, List.any_cons, List.any_map, List.any_cons, ← any_getD rs]
    rfl
section
variable {X : Cx} {k : Nat}
theorem inB_parts {pins : List (Addr × Obj)} {σ : L2.St} {H : Hp} {s : Shared} (I : Inv X pins σ H s) {n : Nat} (hu : X.A.units + 1 + n < cLine) {x : V} {v : Value} (rx : RelV x v) {xs : List V} {bs : List Bool} {us : List Value} (hl : bs.length = xs.length) (r : Vals xs us) (h : ∀ (j : Nat) (z : V) (b : Bool), xs[j]? = some z → bs[j]? = some b → EqB X.K H n z x b) :
    ∀ j (hj : j < us.toArray.size), SeqAt.EqP X.prog X.w X.A.in1 s us.toArray[j] v (bs.getD j false) := fun j hj => by
  have hj2 : j < us.length := by simpa using hj
  have hjx : j < xs.length := by rw [r.length]; exact hj2
  have hjb : j < bs.length := by omega
  have ex : xs[j]? = some xs[j] := List.getElem?_eq_getElem hjx
  obtain ⟨u, hu1, ru⟩ := Vals.get r ex
  have eu : us.toArray[j] = u := by
    have : us[j] = u := by
      rw [List.getElem?_eq_getElem hj2] at hu1
      exact Option.some.inj hu1
    simpa using this
  have eb : bs.getD j false = bs[j] := by rw [List.getD_eq_getElem?_getD, List.getElem?_eq_getElem hjb]; rfl
  rw [eu, eb]
  exact eqB_run I n X.A.in1 (by show X.A.units + 1 + n < cLine; exact hu) _ _ _ _ _ (h j _ _ ex (List.getElem?_eq_getElem hjb)) ru rx
theorem op_inB (K : PySem.W.Frag) (hr : Room k X.A) (e : X.K = K := by rfl) : OpR X (compareOp .In) (rInB K false) := by
  subst e
  intro pins s σ H x y v u Q I rx ry h
  obtain ⟨p, xs, n, bs, rfl, hq, hn, hl, hb, q⟩ := h
  cases ry
  have hu := hr.units
  obtain ⟨its, r, pl, hz⟩ := I.list hq
  have hs : its.toArray.size = bs.length := by rw [List.size_toArray, ← r.length, hl]
  exact (SeqAt.in_listP (A := X.A) (fun j => bs.getD j false) pl.isList (inB_parts I (n := n) (by omega) rx hl r hb)).1 ⟨.bl _, H, I, rfl, by rw [hs, any_getD]; exact q⟩
theorem op_notInB (K : PySem.W.Frag) (hr : Room k X.A) (e : X.K = K := by rfl) : OpR X (compareOp .NotIn) (rInB K true) := by
  subst e
  intro pins s σ H x y v u Q I rx ry h
  obtain ⟨p, xs, n, bs, rfl, hq, hn, hl, hb, q⟩ := h
  cases ry
  have hu := hr.units
  obtain ⟨its, r, pl, hz⟩ := I.list hq
  have hs : its.toArray.size = bs.length := by rw [List.size_toArray, ← r.length, hl]
  exact (SeqAt.in_listP (A := X.A) (fun j => bs.getD j false) pl.isList (inB_parts I (n := n) (by omega) rx hl r hb)).2 ⟨.bl _, H, I, rfl, by rw [hs, any_getD]; exact q⟩
end
/-! ### tuples of three -/
theorem tup3_eqB {K : PySem.W.Frag} {H : Hp} {n : Nat} {a b : Addr} {s t : Str × Str × Int} (h1 : H a = some (.tup [.str s.1, .str s.2.1, .int s.2.2])) (h2 : H b = some (.tup [.str t.1, .str t.2.1, .int t.2.2])) : EqB K H (n + 2) (.ref a) (.ref b) (decide (s = t)) := by
  by_cases e : a = b
  · subst e
    have : s = t := by
      rw [h1] at h2
      obtain ⟨s1, s2, s3⟩ := s
      obtain ⟨t1, t2, t3⟩ := t
      have h2 := HO.tup.inj (Option.some.inj h2)
      injection h2 with z1 h2
      injection h2 with z2 h2
      injection h2 with z3 h2
      injection z1 with z1
      injection z2 with z2
      injection z3 with z3
      subst z1 z2 z3
      rfl
    rw [decide_eq_true this]
    exact eqb_same
  · refine eqb_obj ⟨a, b, rfl, rfl, fun z => absurd z e, .inr (.inr (.inl ⟨_, _, [s.1 == t.1, s.2.1 == t.2.1, s.2.2 == t.2.2], .inl (.inl h1), .inl (.inl h2), .cons (eqb_flat rfl rfl) (.cons (eqb_flat rfl rfl) (.cons (eqb_flat rfl rfl) .nil)), ?_⟩))⟩
    rw [Bool.eq_iff_iff, decide_eq_true_iff]
    simp only [List.all_cons, List.all_nil, id, Bool.and_true, Bool.and_eq_true, beq_iff_eq]
    obtain ⟨s1, s2, s3⟩ := s
    obtain ⟨t1, t2, t3⟩ := t
    simp only [Prod.mk.injEq]
end Pu

set_option Elab.async false
set_option linter.all false
set_option maxRecDepth 100000
set_option maxHeartbeats 4000000
/-! parts of lists; stars within comprehensions -/
namespace Pu
open PySem PySem.Spec PyProof.Rows L2
/-- a walk whose turns are told by what they leave for the next one -/
theorem walk_it {J : It} {n : Nat} {G : Hp → Prop} {Y : Nat → Hp → V → Hp → Prop} (w : Walk J n G Y) {Body : (Hp → Prop) → V → Hp → Prop} {Fin : Hp → Prop} {H0 : Hp} (Pv : Nat → Hp → Prop) (h0 : Pv 0 H0) (hG : ∀ i H, i ≤ n → Pv i H → G H) (hs : ∀ i x H H', i < n → Pv i H → Y i H x H' → Body (Pv (i + 1)) x H') (hd : ∀ H, Pv n H → Fin H) :
    ∃ W : Nat → Nat → Hp → Prop, (∃ m, W 0 m H0) ∧ ∀ i m H, W i m H → (J.stop i H ∧ Fin H) ∨ (J.go i H ∧ ∃ Nx : Hp → Prop, (∀ H', Nx H' → ∃ m', m' < m ∧ W (i + 1) m' H') ∧ ∀ x H', J.yld i H x H' → Body Nx x H') := by
  refine ⟨fun i m H => m = n - i ∧ i ≤ n ∧ Pv i H, ⟨n, by simp, Nat.zero_le _, h0⟩, ?_⟩
  rintro i m H ⟨rfl, hi, p⟩
  rcases Nat.lt_or_ge i n with hlt | hge
  · exact .inr ⟨w.goes i H hlt (hG i H hi p), Pv (i + 1), fun H' p' => ⟨n - (i + 1), by omega, rfl, hlt, p'⟩, fun x H' y => hs i x H H' hlt p (w.yields i H x H' hlt (hG i H hi p) y)⟩
  · have e : i = n := Nat.le_antisymm hi hge
    subst e
    exact .inl ⟨w.stops H (hG _ H hi p), hd H p⟩
theorem paired_takeU {α β : Type} {R : α → β → Prop} {xs : List α} {ys : List β} (h : Paired R xs ys) : ∀ n, Paired R (xs.take n) (ys.take n) := by
  induction h with
  | nil => intro n; rw [List.take_nil, List.take_nil]; exact .nil
  | cons r _ ih =>
    intro n
    cases n with
    | zero => exact .nil
    | succ n => exact .cons r (ih n)
theorem paired_dropU {α β : Type} {R : α → β → Prop} {xs : List α} {ys : List β} (h : Paired R xs ys) : ∀ n, Paired R (xs.drop n) (ys.drop n) := by
  induction h with
  | nil => intro n; rw [List.drop_nil, List.drop_nil]; exact .nil
  | cons r t ih =>
    intro n
    cases n with
    | zero => exact .cons r t
    | succ n => exact ih n
theorem cut_takeU (xs : List V) (k : Nat) : cutV xs none (some (k : Int)) = xs.take k := by
  unfold cutV
  rw [HT.sIx_none, HT.sIx_nat, List.drop_zero, Nat.sub_zero, ← List.take_take, List.take_length]
theorem cut_dropU (xs : List V) (k : Nat) : cutV xs (some (k : Int)) none = xs.drop k := by
  unfold cutV
  rw [HT.sIx_none, HT.sIx_nat, List.take_of_length_le (by rw [List.length_drop]; exact Nat.le_refl _)]
  by_cases h : k ≤ xs.length
  · rw [Nat.min_eq_left h]
  · rw [Nat.min_eq_right (by omega), List.drop_of_length_le (Nat.le_refl _), List.drop_of_length_le (by omega)]
end Pu

set_option Elab.async false
set_option linter.all false
set_option maxRecDepth 100000
set_option maxHeartbeats 4000000
namespace Pk
open PySem PySem.Spec PyProof.Rows L2 Pu
abbrev s_closed_sums : Stmt := topS 6
theorem sc_closed_sums : FnScope ["plan"] ["plan"] (defScope s_closed_sums) := ⟨rfl, rfl, rfl, by decide +kernel, rfl, by decide +kernel, by decide +kernel⟩

section
variable {P : Program} {w : World} {K : PySem.W.Frag} {mg : Str → Option Value} {base : Heap}
/-! ### sums between places, on the heap -/
structure SmAt (H : Hp) (q : Addr) (ps : List Str) (S : Str → Str → Option Int) : Prop where
  ex : ∃ (sa : Str → Addr) (Z : Str → SR), H q = some (.dK (outV ps sa)) ∧ (∀ f ∈ ps, H (sa f) = some (.dK (kvR V.int (Z f)))) ∧ ∀ f ∈ ps, ((Z f).map (·.1)).Nodup ∧ (∀ j ∈ (Z f).map (·.1), j ∈ ps) ∧ ∀ l, getR (Z f) l = S f l
theorem SmAt.same {H H' : Hp} {q : Addr} {ps : List Str} {S : Str → Str → Option Int} (h : SmAt H q ps S) (s : Same H H') : SmAt H' q ps S := by
  obtain ⟨sa, Z, h1, h2, h3⟩ := h.ex
  exact ⟨sa, Z, s _ _ h1, fun f hf => s _ _ (h2 f hf), h3⟩
theorem SmAt.row {H : Hp} {q : Addr} {ps : List Str} {S : Str → Str → Option Int} (h : SmAt H q ps S) {f : Str} (hf : f ∈ ps) : ∃ a r, DGet H q (.str f) (some (.ref a)) ∧ H a = some (.dK (kvR V.int r)) ∧ (r.map (·.1)).Nodup ∧ (∀ j ∈ r.map (·.1), j ∈ ps) ∧ (∀ l, getR r l = S f l) ∧ ∀ l, DGet H a (.str l) ((S f l).map V.int) := by
  obtain ⟨sa, Z, h1, h2, h3⟩ := h.ex
  obtain ⟨n1, n2, n3⟩ := h3 f hf
  refine ⟨sa f, Z f, .inl ⟨outV ps sa, .inr f, .inl h1, rfl, (outV_get hf).symm⟩, h2 f hf, n1, n2, n3, fun l => .inl ⟨kvR V.int _, .inr l, .inl (h2 f hf), rfl, ?_⟩⟩
  rw [valV_kvR, n3 l]
theorem SmAt.dic {H : Hp} {q : Addr} {ps : List Str} {S : Str → Str → Option Int} (h : SmAt H q ps S) : ∃ sa, H q = some (.dK (outV ps sa)) := by
  obtain ⟨sa, Z, h1, _⟩ := h.ex
  exact ⟨sa, h1⟩
theorem keys_iff {r : SR} {l : Str} : l ∈ r.map (·.1) ↔ (getR r l).isSome = true := by
  induction r with
  | nil => exact ⟨fun h => absurd h List.not_mem_nil, fun h => nomatch h⟩
  | cons c r ih =>
    show l ∈ c.1 :: r.map (·.1) ↔ (if c.1 = l then some c.2 else getR r l).isSome = true
    by_cases e : c.1 = l
    · rw [if_pos e, e]
      exact ⟨fun _ => rfl, fun _ => List.mem_cons_self ..⟩
    · rw [if_neg e, ← ih]
      exact ⟨fun h => (List.mem_cons.mp h).resolve_left fun z => e z.symm, fun h => List.mem_cons_of_mem _ h⟩
theorem nodup_le {xs ys : List Str} (nd : xs.Nodup) (h : ∀ x ∈ xs, x ∈ ys) : xs.length ≤ ys.length := nodup_len nd h
def farS (d : PlanD) : Str → Str → Option Int := fun f l => getR (far d f) l
def spClosedSm (K : PySem.W.Frag) (C : Addr) : Sp := fun vs H Q _ => ∃ (p : Addr) (d : PlanD), vs = [.ref p] ∧ PlanAt K C H p d ∧ PlanOk d ∧ ∀ q H', Same H H' → SmAt H' q (("" : Str) :: d.evs) (farS d) → Q (.ref q) H'
theorem ok_closed_sm {C f : Addr} {fd : FuncData} (F : Fun K "closed_sums" "closed_sums" s_closed_sums f fd) (T : Txt mg) (cclose : Cal P w K mg base 1 "close" spClose []) (cplaces_of : Cal P w K mg base 2 "places_of" (spPlaces K C) []) (cplaced_rows : Cal P w K mg base 2 "placed_rows" (spRows K C) []) :
    FnOk P w K mg base CX0 3 f fd ["plan"] (spClosedSm K C) := by
  have nd := sc_closed_sums.nd
  refine F.ok sc_closed_sums (fun vs H Q E h => ?_) (fun cdv A outer s H vs Q E hr h => ?_)
  · obtain ⟨_, _, rfl, _⟩ := h
    rfl
  · obtain ⟨p, d, rfl, hp, ok, q⟩ := h
    refine ⟨_, (pss_one (ps_ret (pe_ix (ixT K) (pe_c cclose hr (by decide) rfl (pa_cons (pe_c cplaces_of hr (by decide) rfl (pa_cons (pv 0) pa_nil)) (pa_cons (pe_c cplaced_rows hr (by decide) rfl (pa_cons (pv 0) pa_nil)) pa_nil))) pe_int (fun _ _ => rfl)))), ?_⟩
    have hl8 := ok.evs.hi
    have nd9 := evs_nd ok
    refine ⟨_, rfl, p, d, rfl, hp, hl8, fun a1 H3 s3 n3 e3 => ?_⟩
    have hp3 := hp.same s3
    refine ⟨_, rfl, p, d, rfl, hp3, ok, fun a2 as H4 s4 n4 e4 hR => ?_⟩
    obtain ⟨rs, hT, hP⟩ := rows_split hR
    have hrs : ∀ r ∈ rs, r.1 ∈ ("" : Str) :: d.evs ∧ r.2.1 ∈ ("" : Str) :: d.evs ∧ 0 ≤ r.2.2.1 := fun r hr => by
      obtain ⟨y, hy, q1, q2, q3, _⟩ := paired_mem hP r hr
      rw [q1, q2, q3]
      exact planRows_in ok y hy
    have hlen : rs.length ≤ 100 := by
      rw [Paired.length hP]
      exact planRows_len ok
    refine ⟨a1, a2, _, as, rs, rfl, s4 _ _ e3, e4, hT, nd9, by rw [List.length_cons]; omega, hlen, hrs, fun t sd wd sa wa H5 s5 nt et hZ => ?_⟩
    refine ⟨t, _, ((0 : Nat) : Int), .ref sd, rfl, rfl, .inl (.inl et), atI_nat rfl, ?_⟩
    have I := all_inv nd9 hrs
    exact q sd H5 (Same.trans s3 (Same.trans s4 s5)) ⟨sa, fun f => (closeZ (("" : Str) :: d.evs) (("" : Str) :: d.evs).length (rowsZ rs) f).1, hZ.ds, hZ.s, fun g hg => ⟨(I.ok g hg).s1, (I.ok g hg).s2, fun l => far_all ok hP hg l⟩⟩

end
end Pk

set_option Elab.async false
set_option linter.all false
set_option maxRecDepth 100000
set_option maxHeartbeats 4000000
namespace Pk
open PySem PySem.Spec PyProof.Rows L2 Pu
abbrev s_law_leads : Stmt := topS 54
theorem sc_law_leads : FnScope ["_law_model_here", "_law_begin"] ["_law_model_here"] (defScope s_law_leads) := ⟨rfl, rfl, rfl, by decide +kernel, rfl, by decide +kernel, by decide +kernel⟩

section
variable {P : Program} {w : World} {K : PySem.W.Frag} {mg : Str → Option Value} {base : Heap}
/-! ### the law's leads -/
theorem mergeK_nd : ∀ {kvs acc : List (Key × V)}, ((acc ++ kvs).map (·.1)).Nodup → mergeK acc kvs = acc ++ kvs
  | [], acc, _ => (List.append_nil acc).symm
  | c :: r, acc, h => by
    have e : valV acc c.1 = none := by
      rw [List.map_append, List.map_cons, List.nodup_append] at h
      have h3 := h.2.2
      unfold valV
      cases q : acc.find? fun kv => decide (kv.1 = c.1) with
      | none => rfl
      | some x =>
        have h4 : decide (x.1 = c.1) = true := List.find?_some (p := fun kv : Key × V => decide (kv.1 = c.1)) q
        exact absurd (of_decide_eq_true h4) (h3 _ (List.mem_map_of_mem (f := (·.1)) (List.mem_of_find?_eq_some q)) _ (List.mem_cons_self ..))
    show mergeK (putK acc c.1 c.2) r = _
    rw [putK_new _ e, mergeK_nd]
    · rw [List.append_assoc]
      rfl
    · rw [List.append_assoc]
      exact h
def rowsP (L : List (Str × Addr)) : List (Key × V) := L.map fun c => (.inr c.1, .ref c.2)
theorem rowsP_out {L : List (Str × Addr)} (nd : (L.map (·.1)).Nodup) : rowsP L = outV (L.map (·.1)) fun f => (getR L f).getD 0 := by
  unfold rowsP outV
  rw [List.map_map]
  refine List.map_congr_left fun c hc => ?_
  show _ = ((Sum.inr c.1 : Key), V.ref ((getR L c.1).getD 0))
  rw [getR_nd nd hc]
  rfl
theorem rowsP_nd {L : List (Str × Addr)} (nd : (L.map (·.1)).Nodup) : ((rowsP L).map (·.1)).Nodup := by
  have e : (rowsP L).map (·.1) = (L.map (·.1)).map fun f => (Sum.inr f : Key) := by
    unfold rowsP
    rw [List.map_map, List.map_map]
    rfl
  rw [e]
  unfold List.Nodup
  rw [List.pairwise_map]
  exact List.Pairwise.imp (fun h z => h (Sum.inr.inj z)) nd
def PairP (H : Hp) (ts : List Addr) (L : List (Str × Addr)) : Prop := Paired (fun t c => H t = some (.tup [.str c.1, .ref c.2])) ts L
theorem PairP.keep {H H' : Hp} {ts : List Addr} {L : List (Str × Addr)} (h : PairP H ts L) (k : ∀ a xs, H a = some (.tup xs) → H' a = some (.tup xs)) : PairP H' ts L := by
  unfold PairP at *
  induction h with
  | nil => exact .nil
  | cons r _ ih => exact .cons (k _ _ r) ih
theorem PairP.snoc {H : Hp} {ts : List Addr} {L : List (Str × Addr)} {t : Addr} {c : Str × Addr} (h : PairP H ts L) (h1 : H t = some (.tup [.str c.1, .ref c.2])) : PairP H (ts ++ [t]) (L ++ [c]) := by
  unfold PairP at *
  induction h with
  | nil => exact .cons h1 .nil
  | cons r _ ih => exact .cons r ih
theorem PairP.kvs {H : Hp} {ts : List Addr} {L : List (Str × Addr)} (h : PairP H ts L) : Paired (fun (p : Addr) (kv : Key × V) => SqT K H p [kV kv.1, kv.2]) ts (rowsP L) := by
  unfold PairP at h
  induction h with
  | nil => exact .nil
  | cons r _ ih => exact .cons (.inl (.inl r)) ih
theorem MdAt.same {H H' : Hp} {m : Addr} {d : PlanD} (h : MdAt H m d) (s : Same H H') : MdAt H' m d := by
  obtain ⟨e, t, c, ts, h1, h2, h3, h4, h5⟩ := h
  exact ⟨e, t, c, ts, s _ _ h1, s _ _ h2, s _ _ h3, h4.same s, s _ _ h5⟩
/-- the law's leads, row by row -/
structure SumsX (H : Hp) (q : Addr) (d : PlanD) : Prop where
  ex : ∃ sa : Str → Addr, H q = some (.dK (outV (("" : Str) :: d.evs) sa)) ∧ ∀ f ∈ ("" : Str) :: d.evs, H (sa f) = some (.dK (kvR V.int (far d f)))
theorem SumsX.same {H H' : Hp} {q : Addr} {d : PlanD} (h : SumsX H q d) (s : Same H H') : SumsX H' q d := by
  obtain ⟨sa, h1, h2⟩ := h.ex
  exact ⟨sa, s _ _ h1, fun f hf => s _ _ (h2 f hf)⟩
theorem SumsX.at {H : Hp} {q : Addr} {d : PlanD} (h : SumsX H q d) : SumsAt H q d := by
  obtain ⟨sa, h1, h2⟩ := h.ex
  exact ⟨sa, fun f => (far d f, []), h1, h2, fun _ _ _ => rfl⟩
def spLawLeads : Sp := fun vs H Q _ => ∃ (m : Addr) (d : PlanD), vs = [.ref m] ∧ MdAt H m d ∧ PlanOk d ∧ ∀ q H', Same H H' → H q = none → SumsX H' q d → Q (.ref q) H'
theorem ok_leads {f : Addr} {fd : FuncData} (F : Fun K "_law_leads" "_law_leads" s_law_leads f fd) (T : Txt mg) (claw_far : Cal P w K mg base 1 "_law_far" spFar []) : FnOk P w K mg base CX0 2 f fd ["_law_model_here"] spLawLeads := by
  have nd := sc_law_leads.nd
  refine F.ok sc_law_leads (fun vs H Q E h => ?_) (fun cdv A outer s H vs Q E hr h => ?_)
  · obtain ⟨_, _, rfl, _⟩ := h
    rfl
  · obtain ⟨m, d, rfl, hM, ok, q⟩ := h
    refine ⟨_, (pss_one (ps_ret (pe_callTy (call_dictP rfl) (by rfl) T.m_dict PyProof.Rows.boot_dict (pa_cons (pe_lc (own := [("_law_begin", 1)]) (g := gName 1) (tt := tYes) rfl nd (pi_list (pe_op oAdd (pe_lst (pa_cons pe_str pa_nil)) (pe_ix (ixL K) (pv 0) pe_int (fun _ _ => rfl)))) (blkOk_by (N := ["_law_model_here", "_law_begin"]) (sc := defScope s_law_leads) (by decide +kernel)) (fun _ _ _ _ _ => pg_name (i := 1) nd rfl (Or.inl rfl)) (fun _ _ _ _ _ => pts_nil) (fun _ _ _ _ _ => (pe_tup (pa_cons (pv 1) (pa_cons (pe_c claw_far hr (by decide) rfl (pa_cons (pv 0) (pa_cons (pv 1) pa_nil))) pa_nil))))) pa_nil)))), ?_⟩
    have hl8 := ok.evs.hi
    refine ⟨sz 1, fun l1 n1 => ?_⟩
    have s1 := same_upd n1 (o := .lst [.str ""])
    have k1 : (upd H l1 (.lst [.str ""])) l1 = some (.lst [.str ""]) := upd_same
    have hM1 := hM.same s1
    revert s1 k1 hM1
    generalize upd H l1 (.lst [.str ""]) = H1
    intro s1 k1 hM1
    obtain ⟨e, t, c, ts, h1, h2, h3, h4, h5⟩ := id hM1
    refine ⟨_, rfl, m, _, ((0 : Nat) : Int), .ref e, rfl, rfl, .inl (.inl h1), atI_nat rfl, .inr (.inr ⟨l1, e, _, _, rfl, rfl, k1, h2, ?_, fun p np => ?_⟩)⟩
    · rw [List.length_map]
      exact Nat.le_trans (by show 1 + _ ≤ 100; omega) (sz 100)
    have s2 := same_upd np (o := .lst ([.str ""] ++ d.evs.map V.str))
    have kp : (upd H1 p (.lst ([.str ""] ++ d.evs.map V.str))) p = some (.lst ((("" : Str) :: d.evs).map V.str)) := upd_same
    have hM2 := hM1.same s2
    have s02 := Same.trans s1 s2
    have nd9 := evs_nd ok
    have hl9 : (("" : Str) :: d.evs).length ≤ 9 := by rw [List.length_cons]; omega
    revert kp hM2 s02
    generalize upd H1 p (.lst ([.str ""] ++ d.evs.map V.str)) = H2
    intro kp hM2 s02
    clear s2 np h1 h2 h3 h4 h5 hM1 k1 s1
    revert kp nd9 hl9
    generalize hgp : ("" : Str) :: d.evs = ps
    intro nd9 hl9 kp
    refine ⟨p, rfl, ⟨_, .inl (.inl kp)⟩, fun D nD => ?_⟩
    refine lc_it (walk_list (K := K) (a := p) (xs := ps.map V.str)) (fun i H' => Same H2 H' ∧ ∃ ts L, H' D = some (.lst (ts.map V.ref)) ∧ PairP H' ts L ∧ L.map (·.1) = ps.take i ∧ ∀ c ∈ L, H' c.2 = some (.dK (kvR V.int (far d c.1)))) ⟨same_upd nD, [], [], upd_same, .nil, rfl, fun _ h => absurd h List.not_mem_nil⟩ (fun i H' _ pv => .inl (.inl (pv.1 _ _ kp))) (fun i x H3' H3 hi pv yv => ?_) (fun H3 pv => ?_)
    · obtain ⟨rfl, hx⟩ := yv
      obtain ⟨f, hf, rfl⟩ := strs_get hx
      obtain ⟨s3, ts, L, hD3, hP, hL, hc⟩ := pv
      refine ⟨rfl, _, rfl, _, rfl, _, rfl, m, d, f, rfl, hM2.same s3, ok, by rw [hgp]; exact List.mem_of_getElem? hf, fun q H4 s4 nq hq => ⟨sz 2, fun T nT => ?_⟩⟩
      have hD4 := s4 _ _ hD3
      have sT := same_upd nT (o := .tup [.str f, .ref q])
      have hlen : ts.length = L.length := Paired.length hP
      have hLl : L.length ≤ 9 := by
        rw [← List.length_map (f := (·.1)), hL, List.length_take]
        omega
      have hTD : T ≠ D := fun z => by rw [z, hD4] at nT; cases nT
      refine ⟨_, sT _ _ hD4, ?_, same_put nD (Same.trans s3 (Same.trans s4 sT)), ts ++ [T], L ++ [(f, q)], by rw [upd_same, List.map_append]; rfl, ?_, ?_, fun c hcm => ?_⟩
      · rw [List.length_map, hlen]
        exact Nat.lt_of_le_of_lt hLl (Nat.lt_of_lt_of_le (by decide) (sz 10))
      · have hTn : ∀ a xs, (upd H4 T (.tup [.str f, .ref q])) a = some (.tup xs) → (upd (upd H4 T (.tup [.str f, .ref q])) D (.lst (ts.map V.ref ++ [.ref T]))) a = some (.tup xs) := fun a xs h => by
          rw [upd_ne (ne_of h (sT _ _ hD4) (fun z => nomatch z))]
          exact h
        refine PairP.snoc (c := (f, q)) (hP.keep fun a xs h => hTn _ _ (sT _ _ (s4 _ _ h))) ?_
        rw [upd_ne hTD]
        exact upd_same
      · rw [List.map_append, hL, List.take_add_one, hf]
        rfl
      · have hq2 : ∀ {a kvs}, H4 a = some (.dK kvs) → (upd (upd H4 T (.tup [.str f, .ref q])) D (.lst (ts.map V.ref ++ [.ref T]))) a = some (.dK kvs) := fun h => by
          have h2 := sT _ _ h
          rw [upd_ne (ne_of h2 (sT _ _ hD4) (fun z => nomatch z))]
          exact h2
        rcases List.mem_append.mp hcm with hcm | hcm
        · exact hq2 (s4 _ _ (hc c hcm))
        · rw [List.mem_singleton.mp hcm]
          exact hq2 hq
    · obtain ⟨s3, ts, L, hD3, hP, hL, hc⟩ := pv
      rw [List.length_map, List.take_length] at hL
      have ndL : (L.map (·.1)).Nodup := hL ▸ nd9
      refine ⟨D, ts, rowsP L, rfl, .inl (.inl hD3), hP.kvs, fun q' nq' => ?_⟩
      rw [mergeK_nd (kvs := rowsP L) (acc := []) (rowsP_nd ndL), List.nil_append]
      have s4 := same_upd nq' (o := .dK (rowsP L))
      have s04 := Same.trans s02 (Same.trans s3 s4)
      refine q q' _ s04 ((Same.trans s02 s3).free nq') ⟨fun f => (getR L f).getD 0, ?_, fun f hf => ?_⟩
      · rw [upd_same, rowsP_out ndL, hL, hgp]
      · rw [hgp, ← hL] at hf
        obtain ⟨c, hcm, rfl⟩ := List.mem_map.mp hf
        dsimp only
        rw [getR_nd ndL hcm]
        exact s4 _ _ (hc c hcm)


end
end Pk

set_option Elab.async false
set_option linter.all false
set_option maxRecDepth 100000
set_option maxHeartbeats 4000000
/-! sorted of lists, of any length, of tuples of integers -/
open PySem PySem.Spec PyProof.Rows Srt
namespace SrtO
/-- the order of such tuples -/
def lexL : List Int → List Int → Bool
  | [], [] => false
  | [], _ :: _ => true
  | _ :: _, [] => false
  | x :: r, y :: t => if x = y then lexL r t else decide (x < y)
theorem lexL_asym : ∀ x y : List Int, lexL x y = true → lexL y x = false
  | [], [], h => by cases h
  | [], _ :: _, _ => rfl
  | _ :: _, [], h => by cases h
  | x :: r, y :: t, h => by
    have h : (if x = y then lexL r t else decide (x < y)) = true := h
    show (if y = x then lexL t r else decide (y < x)) = false
    by_cases e : x = y
    · rw [if_pos e] at h
      rw [if_pos e.symm]
      exact lexL_asym r t h
    · rw [if_neg e] at h
      rw [if_neg (fun z => e z.symm)]
      have := of_decide_eq_true h
      exact decide_eq_false (by omega)
theorem lexL_tr : ∀ x y z : List Int, lexL y x = false → lexL z y = false → lexL z x = false
  | [], _, [], _, _ => rfl
  | [], _, _ :: _, _, _ => rfl
  | _ :: _, [], _, h, _ => by cases h
  | _ :: _, _ :: _, [], _, h => by cases h
  | x :: r, y :: t, z :: u, h1, h2 => by
    have h1 : (if y = x then lexL t r else decide (y < x)) = false := h1
    have h2 : (if z = y then lexL u t else decide (z < y)) = false := h2
    show (if z = x then lexL u r else decide (z < x)) = false
    by_cases e1 : y = x
    · rw [if_pos e1] at h1
      by_cases e2 : z = y
      · rw [if_pos e2] at h2
        rw [if_pos (e2.trans e1)]
        exact lexL_tr r t u h1 h2
      · rw [if_neg e2] at h2
        rw [if_neg (fun w => e2 (w.trans e1.symm))]
        have := of_decide_eq_false h2
        exact decide_eq_false (by omega)
    · rw [if_neg e1] at h1
      have h1 := of_decide_eq_false h1
      by_cases e2 : z = y
      · rw [if_neg (fun w => e1 (e2.symm.trans w))]
        exact decide_eq_false (by omega)
      · rw [if_neg e2] at h2
        have h2 := of_decide_eq_false h2
        by_cases e3 : z = x
        · exact absurd e3 (by omega)
        · rw [if_neg e3]
          exact decide_eq_false (by omega)
theorem lexL_eq : ∀ x y : List Int, lexL x y = false → lexL y x = false → x = y
  | [], [], _, _ => rfl
  | [], _ :: _, h, _ => by cases h
  | _ :: _, [], _, h => by cases h
  | x :: r, y :: t, h1, h2 => by
    have h1 : (if x = y then lexL r t else decide (x < y)) = false := h1
    have h2 : (if y = x then lexL t r else decide (y < x)) = false := h2
    by_cases e : x = y
    · rw [if_pos e] at h1
      rw [if_pos e.symm] at h2
      rw [e, lexL_eq r t h1 h2]
    · rw [if_neg e] at h1
      rw [if_neg (fun z => e z.symm)] at h2
      have := of_decide_eq_false h1
      have := of_decide_eq_false h2
      exact absurd (by omega) e
theorem swo_lexL {α : Type} (k : α → List Int) : Swo fun v u => lexL (k v) (k u) := ⟨fun x y h => lexL_asym _ _ h, fun x y z h1 h2 => lexL_tr _ _ _ h1 h2⟩
/-- a tuple of integers -/
def IsRow (h : Heap) (v : Value) (xs : List Int) : Prop := ∃ a o us n, v = .ref a ∧ h.get? a = some o ∧ o.cls = .type "tuple" ∧ o.data = .seq us.toArray n ∧ L2.Vals (xs.map L2.V.int) us
theorem IsRow.keeps {h h' : Heap} {v : Value} {xs : List Int} (p : IsRow h v xs) (k : ∀ b o, h.get? b = some o → o.cls = .type "tuple" → h'.get? b = some o) : IsRow h' v xs := by
  obtain ⟨a, o, us, n, e, ho, hc, hd, hv⟩ := p
  exact ⟨a, o, us, n, e, k _ _ ho hc, hc, hd, hv⟩
section
variable {prog : Program} {w : World} {A : Around} {s : Shared} {E : Value → Shared → Prop}
theorem lex_ints {b fin : Bool} {Q : Bool → Shared → Prop} : ∀ {xs ys : List Int} {us ws : List Value} {i : Nat}, L2.Vals (xs.map L2.V.int) us → L2.Vals (ys.map L2.V.int) ws → xs.length = ys.length → fin = false → Q (lexL xs ys) s → PySem.W.KatLex prog w A b fin Q (us.zip ws) i s
  | [], [], us, ws, i, hu, hw, _, hf, q => by
    cases hu
    cases hw
    refine PySem.W.kat_nil ?_
    rw [hf]
    exact q
  | [], _ :: _, _, _, _, _, _, hl, _, _ => by cases hl
  | _ :: _, [], _, _, _, _, _, hl, _, _ => by cases hl
  | x :: r, y :: t, us, ws, i, hu, hw, hl, hf, q => by
    cases hu with
    | cons ru hu =>
      cases hw with
      | cons rw' hw =>
        obtain ⟨t1, rfl⟩ := ru
        obtain ⟨t2, rfl⟩ := rw'
        have q : Q (if x = y then lexL r t else decide (x < y)) s := q
        refine PySem.W.kat_cons (SeqAt.EqAt.int_int x t1 y t2 prog w _ _ ?_)
        refine PySem.W.kat_go (fun e1 => ?_) (fun e1 => ?_)
        · have ex : x = y := by simpa using e1
          rw [if_pos ex] at q
          exact PySem.W.kat_yes (lex_ints hu hw (Nat.succ.inj hl) hf q)
        · have ex : ¬ x = y := by simpa using e1
          rw [if_neg ex] at q
          exact PySem.W.kat_no (TS.oneLt_ints _ q)
theorem row_cmp {vs : List Value} {k : Value → List Int} {n : Nat} (hp : ∀ v ∈ vs, IsRow s.heap v (k v) ∧ (k v).length = n) : Cmp prog w A s (tuples' true) (fun p => p.1 ∈ vs) (lt2 fun v u => lexL (k v) (k u)) := by
  intro p q hm hm'
  obtain ⟨h1, l1⟩ := hp _ hm
  obtain ⟨h2, l2⟩ := hp _ hm'
  show wpAny (model prog w) A (keyLt' (tuples' true) p.1 q.1) (fun r s' => s' = s ∧ r = lexL (k p.1) (k q.1)) (fun _ _ => False) s
  generalize k p.1 = xs at h1 l1 ⊢
  generalize k q.1 = ys at h2 l2 ⊢
  obtain ⟨a, o, us, n1, e, ho, hc, hd, hv⟩ := h1
  obtain ⟨a', o', us', n2, e', ho', hc', hd', hv'⟩ := h2
  rw [e, e']
  have z1 := L2.Vals.length hv
  have z2 := L2.Vals.length hv'
  rw [List.length_map] at z1 z2
  refine PySem.W.kat_lt ho hd ho' hd' (lex_ints hv hv' (by omega) ?_ ⟨rfl, rfl⟩)
  rw [List.size_toArray, List.size_toArray]
  exact decide_eq_false (by omega)
theorem firsts_rows {h : Heap} : ∀ {vs : List Value}, (∀ v ∈ vs, ∃ x r, IsRow h v (x :: r)) → ∃ fs : List Value, PySem.W.KatTups h vs fs ∧ fs.length = vs.length ∧ ∀ f ∈ fs, ∃ x t, f = Value.int x t
  | [], _ => ⟨[], PySem.W.KatTups.nil, rfl, fun _ hm => by simp at hm⟩
  | v :: vs, hp => by
    obtain ⟨fs, h1, h2, h3⟩ := firsts_rows (vs := vs) fun v' hm => hp v' (List.mem_cons_of_mem _ hm)
    obtain ⟨x, r, a, o, us, n, e, ho, hc, hd, hv⟩ := hp v (List.mem_cons_self ..)
    subst e
    cases hv with
    | cons ru hv =>
      obtain ⟨t, rfl⟩ := ru
      refine ⟨.int x t :: fs, PySem.W.KatTups.cons ho hc hd rfl h1, by rw [List.length_cons, List.length_cons, h2], fun f hm => ?_⟩
      rcases List.mem_cons.mp hm with rfl | hm
      · exact ⟨x, t, rfl⟩
      · exact h3 f hm
theorem rows_sortable {a : Addr} {vs : List Value} {k : Value → List Int} {n : Nat} (h0 : 0 < vs.length) (hn : 1 ≤ n) (hp : ∀ v ∈ vs, IsRow s.heap v (k v) ∧ (k v).length = n) (ha : ∀ o, s.heap.get? a = some o → o.cls ≠ .type "tuple") : SortableO prog w A s a vs fun v u => lexL (k v) (k u) := by
  intro h' keep
  have hp' : ∀ v ∈ vs, IsRow h' v (k v) ∧ (k v).length = n := fun v hm => ⟨(hp v hm).1.keeps fun b o e c => keep b o (fun z => by subst z; exact ha o e c) e, (hp v hm).2⟩
  obtain ⟨fs, h1, h2, h3⟩ := firsts_rows fun v hm => by
    obtain ⟨y1, y2⟩ := hp' v hm
    cases hk : k v with
    | nil => rw [hk] at y2; exact absurd y2 (by show ¬ 0 = n; omega)
    | cons x r => rw [hk] at y1; exact ⟨x, r, y1⟩
  refine ⟨tuples' true, fun Q E hq => ?_, row_cmp (n := n) hp'⟩
  refine PySem.W.kat_kind (T := .type "int") h1 (by omega) (fun f hm => ?_) (by rfl) ?_
  · obtain ⟨x, t, rfl⟩ := h3 f hm
    exact PySem.W.Looks.now
  · have e : (Value.type "int" != Value.type "tuple") = true := by first | decide +kernel | rfl | decide
    rw [e]
    exact hq
/-- sorted(l) of tuples of integers, all of one length, any number of them -/
theorem sorted_rowsO {l : Addr} {vs : List Value} {k : Value → List Int} {n : Nat} {Q : Value → Shared → Prop} (hl : s.heap.IsList l vs.toArray) (hz : vs.length ≤ sizeLine) (hn : 1 ≤ n) (hp : ∀ v ∈ vs, IsRow s.heap v (k v) ∧ (k v).length = n)
    (h : ∀ (h' : Heap) (d : Addr) (out : List Value), Srtd (fun v u => lexL (k v) (k u)) out → Stb (fun v u => lexL (k v) (k u)) out vs → (∀ b o, s.heap.get? b = some o → h'.get? b = some o) → s.heap.objs.size ≤ d → (∃ n, h'.get? d = some (seqObj "list" out.toArray n)) → Q (.ref d) { s with heap := h' }) :
    wpAny (model prog w) A (call (.builtin "sorted") [.ref l]) Q E s := by
  refine sorted_ord (swo_lexL k) hl hz (fun h2 h₁ a ha kk => ?_) fun out hs hb => ?_
  · refine rows_sortable (s := { s with heap := h₁ }) (n := n) (by omega) hn (fun v hm => ⟨(hp v hm).1.keeps fun b o e _ => (kk b o e).2, (hp v hm).2⟩) fun o e => ?_
    have e' : some o = some (seqObj "list" vs.toArray 0) := e.symm.trans ha
    cases e'
    intro c
    exact absurd (Value.type.inj c) (by decide)
  · exact h _ _ out hs hb (fun b o e => sortedAll_old e) (Nat.le_succ _) (sortedAll_at s.heap vs out.toArray)
end
end SrtO
namespace Pu
open PySem PySem.Spec PyProof.Rows L2
/-- sorted(xs), xs a list of tuples of integers, all of one length (k says which): a new list, sorted -/
def rSortN (K : PySem.W.Frag) : List V → Hp → VK → Prop := fun vs H Q => ∃ (a : Addr) (xs : List V) (k : V → List Int) (n : Nat), vs = [V.ref a] ∧ SqL K H a xs ∧ 1 ≤ n ∧ (∀ x ∈ xs, (∃ t, x = V.ref t ∧ H t = some (.tup ((k x).map V.int))) ∧ (k x).length = n) ∧
  ∀ ys p, ys.Pairwise (fun x y => SrtO.lexL (k y) (k x) = false) → ys.Perm xs → H p = none → Q (.ref p) (upd H p (.lst ys))
section
variable {X : Cx}
theorem srtN (K : PySem.W.Frag) (hK : X.K = K := by rfl) : CallR X (.builtin "sorted") (rSortN K) := by
  subst hK
  intro pins s σ H vs us Q I r h
  obtain ⟨a, xs, k, n, rfl, hs, hn, hx, q⟩ := h
  obtain ⟨its, rv, hl, hz⟩ := I.list hs
  obtain ⟨u, rfl, ru⟩ := vals1 r
  obtain rfl : u = Value.ref a := ru
  obtain ⟨e1, e2⟩ := refs_back rv fun x m => by
    obtain ⟨⟨t, e, _⟩, _⟩ := hx x m
    exact ⟨t, e⟩
  refine SrtO.sorted_rowsO (k := fun u => k (backV u)) (n := n) hl.isList (by rw [← rv.length]; exact hz) hn (fun v hv => ?_) fun h' d out h1 h2 kp hd hn => ?_
  · obtain ⟨t, rfl⟩ := e2 v hv
    have hm : V.ref t ∈ xs := by rw [e1]; exact List.mem_map.mpr ⟨_, hv, rfl⟩
    obtain ⟨⟨t', e, ht⟩, hk⟩ := hx _ hm
    cases e
    obtain ⟨_, its2, r2, o, ho, hc, n, hd⟩ := I.hok _ _ ht
    exact ⟨⟨t, o, its2, n, rfl, ho, hc, hd, r2⟩, hk⟩
  · have h3 : ∀ u ∈ out, ∃ a, u = Value.ref a := fun u hu => e2 u (h2.perm.mem_iff.mp hu)
    obtain ⟨n, hn⟩ := hn
    have hb : (out.map backV).Perm xs := by
      rw [e1]
      exact h2.perm.map backV
    refine ⟨.ref d, upd H d (.lst (out.map backV)), I.laid (t' := s.toks) kp hd ⟨?_, out, n, vals_back h3, hn⟩, rfl, q _ d (List.pairwise_map.mpr h1) hb (I.hok.fresh hd)⟩
    rw [hb.length_eq]
    exact hz
end
end Pu

set_option Elab.async false
set_option linter.all false
set_option maxRecDepth 100000
set_option maxHeartbeats 4000000
/-! sorted of plain data that are alike (tuples within tuples): what it tells depends on the items alone -/
namespace Pu
open PySem PySem.Spec PyProof.Rows L2
/-- the sorted data -/
def srtL (ds : List PyData) : List PyData := ds.mergeSort (PySem.W.dataLe false fun d => d)
def rSortD (K : PySem.W.Frag) : List V → Hp → VK → Prop := fun vs H Q => ∃ (a : Addr) (xs : List V) (ds : List PyData), vs = [V.ref a] ∧ SqL K H a xs ∧ DpAll K H xs ds ∧ PySem.W.AllAlike ds ∧ PySem.W.Sortable ds ∧ (∀ d ∈ ds, d.depth ≤ 20) ∧
  ∀ ys p, ys.Perm xs → DpAll K H ys (srtL ds) → H p = none → Q (.ref p) (upd H p (.lst ys))
theorem dpAll_zip {K : PySem.W.Frag} {H : Hp} : ∀ {xs : List V} {ds : List PyData}, DpAll K H xs ds → xs.length = ds.length ∧ ∀ p ∈ xs.zip ds, Dp K H p.1 p.2
  | _, _, .nil => ⟨rfl, fun _ h => absurd h (by simp)⟩
  | _, _, .cons (v := v) (d := d) h t => by
    obtain ⟨h1, h2⟩ := dpAll_zip t
    refine ⟨congrArg (· + 1) h1, fun p hp => ?_⟩
    rw [List.zip_cons_cons] at hp
    rcases List.mem_cons.mp hp with rfl | hp
    · exact h
    · exact h2 p hp
theorem dpAll_of {K : PySem.W.Frag} {H : Hp} : ∀ {zs : List (V × PyData)}, (∀ p ∈ zs, Dp K H p.1 p.2) → DpAll K H (zs.map (·.1)) (zs.map (·.2))
  | [], _ => .nil
  | z :: zs, h => .cons (h z (List.mem_cons_self ..)) (dpAll_of fun p hp => h p (List.mem_cons_of_mem _ hp))
theorem map_snd_zip {α β : Type} : ∀ {xs : List α} {ds : List β}, xs.length = ds.length → (xs.zip ds).map (·.2) = ds ∧ (xs.zip ds).map (·.1) = xs
  | [], [], _ => ⟨rfl, rfl⟩
  | x :: xs, d :: ds, h => by
    obtain ⟨h1, h2⟩ := map_snd_zip (xs := xs) (ds := ds) (Nat.succ.inj h)
    rw [List.zip_cons_cons, List.map_cons, List.map_cons, h1, h2]
    exact ⟨rfl, rfl⟩
  | [], _ :: _, h => by cases h
  | _ :: _, [], h => by cases h
theorem vals_zip {xs : List V} {us : List Value} (h : Vals xs us) {ds : List PyData} (hl : xs.length = ds.length) : PySem.W.EachIs (fun (u : Value) (b : V × PyData) => RelV b.1 u) us (xs.zip ds) := by
  induction h generalizing ds with
  | nil => exact .nil
  | @cons x u xs us r _ ih =>
    cases ds with
    | nil => cases hl
    | cons d ds =>
      rw [List.zip_cons_cons]
      exact .cons r (ih (Nat.succ.inj hl))
theorem vals_of_each {us : List Value} {zs : List (V × PyData)} (h : PySem.W.EachIs (fun (u : Value) (b : V × PyData) => RelV b.1 u) us zs) : Vals (zs.map (·.1)) us := by
  induction h with
  | nil => exact .nil
  | cons r _ ih => exact .cons r ih
section
variable {X : Cx}
theorem each_reads {pins : List (Addr × Obj)} {σ : L2.St} {H : Hp} {s : Shared} (I : Inv X pins σ H s) {xs : List V} {us : List Value} (h : Vals xs us) {ds : List PyData} (hd : DpAll X.K H xs ds) : PySem.W.EachIs (fun (u : Value) (b : V × PyData) => ∃ as, Reads s.heap u b.2 as) us (xs.zip ds) := by
  induction h generalizing ds with
  | nil => exact .nil
  | @cons x u xs us r _ ih =>
    cases hd with
    | cons h1 h2 =>
      rw [List.zip_cons_cons]
      exact .cons (Dp.reads I _ _ _ h1 r) (ih h2)
theorem srtD {k : Nat} (K : PySem.W.Frag) (hr : Room k X.A) (hK : X.K = K := by rfl) : CallR X (.builtin "sorted") (rSortD K) := by
  subst hK
  intro pins s σ H vs us Q I r h
  obtain ⟨a, xs, ds, rfl, hs, hd, hal, hso, hdp, q⟩ := h
  obtain ⟨its, rv, hl, hz⟩ := I.list hs
  obtain ⟨u, rfl, ru⟩ := vals1 r
  obtain rfl : u = Value.ref a := ru
  obtain ⟨hlen, hdz⟩ := dpAll_zip hd
  obtain ⟨e2, e1⟩ := map_snd_zip hlen
  have hu := hr.units
  refine PySem.W.sorted_data (R := fun (u : Value) (b : V × PyData) => RelV b.1 u) (bs := xs.zip ds) (enc := fun b => b.2) hl.isList (vals_zip rv hlen) (each_reads I rv hd) (by rw [e2]; exact hal) (by rw [e2]; exact hso) ?_ (fun b hb => ?_) fun out ho eo => ?_
  · rw [List.length_zip, ← hlen, Nat.min_self]
    exact hz
  · have := hdp b.2 (by rw [← e2]; exact List.mem_map_of_mem hb)
    omega
  · have hp : ((xs.zip ds).mergeSort (PySem.W.dataLe false fun b : V × PyData => b.2)).Perm (xs.zip ds) := List.mergeSort_perm ..
    have hv := vals_of_each eo
    have hD : DpAll X.K H (((xs.zip ds).mergeSort (PySem.W.dataLe false fun b : V × PyData => b.2)).map (·.1)) (srtL ds) := by
      have h1 := dpAll_of (K := X.K) (H := H) (zs := (xs.zip ds).mergeSort (PySem.W.dataLe false fun b : V × PyData => b.2)) fun p hp' => hdz p (hp.mem_iff.mp hp')
      have h2 : ((xs.zip ds).mergeSort (PySem.W.dataLe false fun b : V × PyData => b.2)).map (·.2) = srtL ds := by
        unfold srtL
        have h3 := List.map_mergeSort (r := PySem.W.dataLe false fun b : V × PyData => b.2) (s := PySem.W.dataLe false fun d : PyData => d) (f := fun b : V × PyData => b.2) (l := xs.zip ds) fun _ _ _ _ => rfl
        rw [h3, e2]
      rw [h2] at h1
      exact h1
    obtain ⟨n, hn⟩ := PyProof.Rows.sortedAll_at s.heap its out.toArray
    refine ⟨.ref (s.heap.objs.size + 1), upd H (s.heap.objs.size + 1) (.lst (((xs.zip ds).mergeSort (PySem.W.dataLe false fun b : V × PyData => b.2)).map (·.1))), I.laid (t' := s.toks) (fun b o e => PyProof.Rows.sortedAll_old e) (Nat.le_succ _) ⟨?_, out, n, hv, hn⟩, rfl, q _ _ ?_ hD (I.hok.fresh (Nat.le_succ _))⟩
    · rw [List.length_map, hp.length_eq, List.length_zip, ← hlen, Nat.min_self]
      exact hz
    · have := hp.map (·.1)
      rw [e1] at this
      exact this
end
end Pu
namespace Pu
open PySem PySem.Spec PyProof.Rows L2
/-- sorted integers -/
def sI (xs : List Int) : List Int := xs.mergeSort fun a b => decide (a ≤ b)
theorem sI_uniq {ys xs : List Int} (hp : ys.Perm xs) (hs : ys.Pairwise (· ≤ ·)) : ys = sI xs := by
  refine PySem.W.Srt.the_of_perm (le := fun a b : Int => decide (a ≤ b)) (fun a b c h1 h2 => ?_) (fun a b => ?_) (fun a b h1 h2 => ?_) hp (hs.imp fun h => decide_eq_true h)
  · have := of_decide_eq_true h1
    have := of_decide_eq_true h2
    exact decide_eq_true (by omega)
  · rw [Bool.or_eq_true]
    by_cases h : a ≤ b
    · exact .inl (decide_eq_true h)
    · exact .inr (decide_eq_true (by omega))
  · have := of_decide_eq_true h1
    have := of_decide_eq_true h2
    omega
theorem sI_perm {xs ys : List Int} (h : xs.Perm ys) : sI xs = sI ys := by
  refine sI_uniq ((List.mergeSort_perm ..).trans h) ?_
  have h2 := List.pairwise_mergeSort (le := fun a b : Int => decide (a ≤ b)) (fun a b c h1 h2 => by
    have := of_decide_eq_true h1
    have := of_decide_eq_true h2
    exact decide_eq_true (by omega)) (fun a b => by
    rw [Bool.or_eq_true]
    by_cases h : a ≤ b
    · exact .inl (decide_eq_true h)
    · exact .inr (decide_eq_true (by omega))) xs
  exact h2.imp fun h => of_decide_eq_true h
section
variable {X : Cx}
theorem srtI (K : PySem.W.Frag) (hK : X.K = K := by rfl) : CallR X (.builtin "sorted") (rSortedI K) := by
  subst hK
  exact cr_sortedI
end
end Pu

set_option Elab.async false
set_option linter.all false
set_option maxRecDepth 100000
set_option maxHeartbeats 4000000
/-! tuple(d): the keys of a dict -/
namespace Pu
open PySem PySem.Spec PyProof.Rows L2
section
variable {prog : Program} {w : World} {A : Around} {E : Value → Shared → Prop} {s : Shared} {T : String} {r d : Addr} {n : Nat} {P : Nat → Value → Prop} {OK : Heap → Prop}
theorem collect_src {Q : List Value → Shared → Prop} (K : PySem.W.KdlSrc prog w T r d n P OK) (hh : A.handled = none) (hok : OK s.heap) (hn : n ≤ sizeLine)
    (hQ : ∀ (h' : Heap) (tk : Nat) (acc : Array Value), (∀ b o, s.heap.get? b = some o → h'.get? b = some o) → ItemsOf P acc n → Q acc.toList { s with heap := h', toks := tk }) :
    wpAny (model prog w) A (collect (.ref r)) Q E s := by
  unfold collect
  refine wpAny_bind (wpAny_runValue (codeAny_builtin F.entry_proto_collect ?_))
  rw [Around.under_plainId F.plain_proto_collect _]
  show wpAny _ A.in1 (newList [] >>= fun l => again (.builtin "list.__iadd__" ⟨[l, .ref r], []⟩)) _ _ s
  refine wpAny_bind (wpAny_newObj_type ?_)
  refine wpAny_pure ⟨plainId_quiet F.plain_list_iadd _, codeAny_builtin F.entry_list_iadd ?_⟩
  rw [Around.under_plainId F.plain_list_iadd _]
  show wpAny _ A.in1 (Builtin.List.listExtendWith (.ref s.heap.objs.size) (.ref r) (.ref s.heap.objs.size)) _ _ _
  have hS : (s.heap.push { cls := .type "list", data := .seq ([] : List Value).toArray }).get? s.heap.objs.size = some { cls := .type "list", data := .seq #[] 0 } := Heap.get?_push_size _ rfl
  have hlt := K.there _ hok
  refine wpAny_mono (PySem.W.kdl_extend (A := A) (R := fun rr s' => rr = .ok (.ret (.ref s.heap.objs.size)) ∧ ∃ (h' : Heap) (tk : Nat) (acc : Array Value) (c' : Nat), s' = { s with heap := h', toks := tk } ∧
      (∀ b o, s.heap.get? b = some o → h'.get? b = some o) ∧ h'.get? s.heap.objs.size = some { cls := .type "list", dict := none, data := .seq acc c', slots := #[] } ∧ ItemsOf P acc n)
    (s := { s with heap := s.heap.push { cls := .type "list", data := .seq ([] : List Value).toArray } }) K hh (K.keep _ _ hok fun b _ o e => Heap.get?_push_of_some _ e) _ (Nat.ne_of_gt hlt.1) (Nat.ne_of_gt hlt.2) _ 0 hS
    (fun h' tk acc c' hk e hi => ⟨rfl, h', tk, acc, c', rfl, fun b o q => hk b o (Nat.ne_of_lt (Heap.lt_size q)) (Heap.get?_push_of_some _ q), e, hi⟩) hn) (fun fin s' h => ?_) (fun e s' h => ?_)
  · cases fin with
    | done f =>
      obtain ⟨e, h', tk, acc, c', rfl, hk, hS', hi⟩ := h
      cases e
      show wpAny _ A (load s.heap.objs.size >>= _) _ _ _
      exact wpAny_bind (wpAny_load hS' (wpAny_pure (hQ h' tk acc hk hi)))
    | again c' =>
      refine ⟨h.1, codeAny_mono h.2 fun rr s'' hr' => ?_⟩
      obtain ⟨rfl, h', tk, acc, c', rfl, hk, hS', hi⟩ := hr'
      show wpAny _ A (load s.heap.objs.size >>= _) _ _ _
      exact wpAny_bind (wpAny_load hS' (wpAny_pure (hQ h' tk acc hk hi)))
  · exact absurd h.1 (by simp)
theorem code_tuple_src {Q₁ : Value → Shared → Prop} (K : PySem.W.KdlSrc prog w "dict" r d n P OK) (hh : A.handled = none) (hok : OK s.heap) (hn : n ≤ sizeLine)
    (h : ∀ (h' : Heap) (tk : Nat) (acc : Array Value), (∀ b o, s.heap.get? b = some o → h'.get? b = some o) → ItemsOf P acc n →
      Q₁ (.ref h'.objs.size) { s with heap := h'.push { cls := .type "tuple", data := .seq acc }, toks := tk }) :
    codeAny (model prog w) A (.call (.builtin "tuple.__new__") ⟨[.type "tuple", .ref r], []⟩) (wants Q₁ E) s := by
  refine codeAny_of_tree ?_
  show wpAny _ A.in1 (do checkBuiltinCall "tuple.__new__" ⟨[.type "tuple", .ref r], []⟩; again (.builtin "tuple.__new__" ⟨[.type "tuple", .ref r], []⟩)) _ _ s
  refine wpAny_bind (wpAny_of_eq (F.newCall_tuple_1 _) (wpAny_pure ⟨plainId_quiet F.plain_tuple_new _, codeAny_builtin F.entry_tuple_new ?_⟩))
  rw [Around.under_plainId F.plain_tuple_new _]
  have hsub := sub_tuple_self
  have hinit := init_tuple_lookup
  have hmh := madeHere_tuple
  have hTI : s.TypeIs (.ref r) "dict" := K.type s hok
  have hh1 : A.in1.handled = none := hh
  wp_walk using wpAny_typeOf hTI, collect_src (A := A.in1) K hh1 hok hn
  intro h' tk acc hk hacc
  show wpAny _ _ (Builtin.Tuple.tupleExact acc.toList.toArray >>= fun v => ret v) _ _ _
  unfold Builtin.Tuple.tupleExact
  refine wpAny_bind (wpAny_newObj_type ?_ (by show acc.toList.toArray.size ≤ sizeLine; simp only [Array.toArray_toList]; rw [hacc.1]; exact hn))
  refine wpAny_pure ?_
  have e : acc.toList.toArray = acc := by simp
  rw [e]
  exact h h' tk acc hk hacc
theorem call_tuple_src {Q : Value → Shared → Prop} (K : PySem.W.KdlSrc prog w "dict" r d n P OK) (hh : A.handled = none) (hok : OK s.heap) (hn : n ≤ sizeLine)
    (hQ : ∀ (h' : Heap) (tk : Nat) (acc : Array Value), (∀ b o, s.heap.get? b = some o → h'.get? b = some o) → ItemsOf P acc n →
      Q (.ref h'.objs.size) { s with heap := h'.push { cls := .type "tuple", data := .seq acc }, toks := tk }) :
    wpAny (model prog w) A (call (.type "tuple") [.ref r]) Q E s := by
  refine callType_codes (Q₁ := fun obj s₁ => s₁.TypeIs obj "tuple" ∧ Q obj s₁) F.called_tuple (F.typeCall_tuple_1 _) F.entry_object_init
    (code_tuple_src (A := A.in1) K hh hok hn fun h' tk acc hk hacc => ⟨⟨_, Heap.get?_push_size _ rfl, rfl⟩, hQ h' tk acc hk hacc⟩) fun obj s₁ h₁ => ?_
  exact ⟨h₁.1, F.args_object_init_2 obj _, object_init_meets F.called_tuple.init.lookup F.called_tuple.made (by decide) prog w A.in1 _ s₁ ⟨h₁.1, rfl, h₁.2⟩⟩
end
theorem call_tuple_dK {X : Cx} (hc : X.calm = true) : CallR X (.type "tuple") (fun xs H Q => ∃ p kvs, xs = [.ref p] ∧ H p = some (.dK kvs) ∧ ∀ q, H q = none → Q (.ref q) (upd H q (.tup (kvs.map fun kv => kV kv.1)))) := by
  intro pins s σ H xs us Q I r h
  obtain ⟨p, kvs, e, hk, q⟩ := h
  subst e
  obtain ⟨u, eu, rx⟩ := vals1 r
  subst eu
  obtain rfl : u = Value.ref p := rx
  obtain ⟨z, lo, vs, rk, hd⟩ := (show ObjOk X.prog X.w H s.heap p (.dK kvs) from I.hok p _ hk)
  obtain ⟨ep, hat⟩ := hd.dictAt
  have hl : kvs.length = vs.length := Paired.length rk
  refine call_tuple_src (PySem.W.kdl_dict (knd := mixKind X.prog X.w) (kvs := vs) (ep := ep) lo) (I.ok.hd hc) hat (by rw [← hl]; exact z) fun h' tk acc hkeep hacc => ?_
  have I2 : Inv X pins σ H { s with heap := h', toks := tk } := I.kept hkeep
  refine ⟨.ref h'.objs.size, upd H h'.objs.size (.tup (kvs.map fun kv => kV kv.1)), I2.laid (t' := tk) (fun c o e => Heap.get?_push_of_some _ e) (Nat.le_refl _) (show ObjOk X.prog X.w _ _ _ (.tup (kvs.map fun kv => kV kv.1)) from ⟨?_, acc.toList, ?_, ?_⟩), rfl, q _ (I2.hok.fresh (Nat.le_refl _))⟩
  · rw [List.length_map]; exact z
  · have el : acc.toList.length = acc.size := by simp
    refine vals_of_at (by rw [List.length_map, el, hacc.1, hl]) fun j x w h1 h2 => ?_
    obtain ⟨k, y, hky, hi⟩ := hacc.2 j w (by rw [← Array.getElem?_toList]; exact h2)
    have e1 : (kvs.map (·.1))[j]? = some k := by
      rw [KV.keys rk, List.getElem?_map, hky] <;> rfl
    have e2 : (kvs.map fun kv => kV kv.1)[j]? = some (kV k) := by
      have e3 : (kvs.map fun kv => kV kv.1) = (kvs.map (·.1)).map kV := by rw [List.map_map] <;> rfl
      rw [e3, List.getElem?_map, e1] <;> rfl
    rw [e2] at h1
    cases h1
    exact keyIs_rel hi
  · rw [Array.toArray_toList]; exact IsTup.new _ _
end Pu

set_option Elab.async false
set_option linter.all false
set_option maxRecDepth 100000
set_option maxHeartbeats 4000000
/-! list(d.values()) -/
namespace Pu
open PySem PySem.Spec PyProof.Rows L2
def tListVals (te : TE) : TE := fun σ H Q => te σ H fun x H1 => ∃ (d : Addr) (kvs : List (Key × V)), x = .ref d ∧ H1 d = some (.dK kvs) ∧ ∀ q, H1 q = none → Q (.ref q) (upd H1 q (.lst (kvs.map (·.2))))
theorem pe_listVals {X : Cx} {e : Expr} {te : TE} {p apos cpos pos : Pos} (hc : X.calm = true) (he : PE X e te) (hg : Gl X "list") (hm : X.mg "list" = none) (hbase : attributeBase e "values" X.env (eval e X.env) = eval e X.env := by rfl) (hline : (apos.endLine == cpos.line) = true := by rfl)
    (hs : starEach [.Call (.Attribute e "values" apos) [] [] cpos] X.env = (false, eval (.Call (.Attribute e "values" apos) [] [] cpos) X.env) :: starEach [] X.env := by rfl) :
    PE X (.Call (.Name "list" p) [.Call (.Attribute e "values" apos) [] [] cpos] [] pos) (tListVals te) := by
  refine ⟨fun pins s σ H Q I hq => ?_⟩
  refine wpAny_Call_Name_kw (ld_blt I hg hm PyProof.Rows.boot_list ?_)
  refine PyProof.Rows.callWith_type1 ?_ hs rfl
  rw [hs]
  show wpAny _ _ (spliced ((false, eval (.Call (.Attribute e "values" apos) [] [] cpos) X.env) :: backTo pos (starEach [] X.env))) _ _ s
  refine Calls.spliced_cons ?_
  refine wpAny_Call_method (T := "dict") (id := "dict.values") hbase rfl hline F.plainAttrs_dict F.slot_dict_values F.type_dict_values (thn (he.run pins s σ H _ I hq) fun u s1 ⟨x, H1, I1, rx, d, kvs, ex, hd, q⟩ => ?_)
  subst ex
  obtain rfl : u = Value.ref d := rx
  obtain ⟨hz, lo, vs, kv, hdo⟩ := I1.hok d _ hd
  obtain ⟨ep, hat⟩ := hdo.dictAt
  have lk : kvs.length = vs.length := Paired.length kv
  refine ⟨hdo.typeIs, hdo.mapOf.noDict, ?_⟩
  show wpAny _ _ (callWith cpos (.builtin "dict.values") [.ref d] [] []) _ X.xe s1
  refine method_meetsIn F.slot_dict_values F.entry_dict_values rfl (PySem.evalArgs_none ⟨rfl, hdo.typeIs, F.args_dict_values_1 _, _, meets_dict_values (mixKind X.prog X.w) d lo, ⟨vs, hdo⟩, ?_⟩)
  refine Calls.spliced_nil ?_
  have I2 : Inv X pins σ H1 { s1 with heap := s1.heap.push { cls := .type "dict_values", data := .fields #[.ref d] } } := I1.kept (t' := s1.toks) fun b ob q => Heap.get?_push_of_some _ q
  refine PySem.W.kdl_call (PySem.W.kdl_values (knd := mixKind X.prog X.w) (kvs := vs) (ep := ep)) (I1.ok.hd hc) ⟨⟨_, Heap.get?_push_size _ rfl, rfl, rfl⟩, hat.push _⟩ (by omega) fun h' tk acc c' hk hS hi => ?_
  refine ⟨.ref _, upd H1 _ (.lst (kvs.map (·.2))), I2.laid (t' := tk) hk (Nat.le_refl _) ⟨by rw [List.length_map]; exact hz, acc.toList, c', ?_, ?_⟩, rfl, q _ (I2.hok.fresh (Nat.le_refl _))⟩
  · have el : acc.toList.length = acc.size := by simp
    refine vals_of_at (by rw [List.length_map, el, hi.1, lk]) fun j x w h1 h2 => ?_
    obtain ⟨k, hky⟩ := hi.2 j w (by rw [← Array.getElem?_toList]; exact h2)
    obtain ⟨y, g1, g2⟩ := KV.at' kv hky
    rw [List.getElem?_map, g1] at h1
    cases h1
    exact g2
  · rw [Array.toArray_toList]; exact hS
/-- the sum of what a dict of integers holds -/
theorem vals_kvR {α : Type} (f : α → V) (r : List (Str × α)) : ((r.map fun c => ((.inr c.1 : Key), f c.2)).map (·.2)) = (r.map (·.2)).map f := by
  rw [List.map_map, List.map_map]
  rfl
end Pu

set_option Elab.async false
set_option linter.all false
set_option maxRecDepth 100000
set_option maxHeartbeats 1000000
/-! zip over any two that go on one by one; dict(zip(list, tuple)) -/
namespace Pu
open PySem
open PySem.Sem (wp)
/-- what goes on one by one, and changes nothing but itself -/
structure Adv (prog : Program) (w : World) (it l : Addr) (St : Nat → Heap → Prop) (g : Nat → Option Value) : Prop where
  item : ∀ {A : Around} {E : Value → Shared → Prop} {s : Shared} {i : Nat} {x : Value} {Q : Value → Shared → Prop}, St i s.heap → g i = some x → (∀ h', St (i + 1) h' → Heap.SameBut it s.heap h' → Q x { s with heap := h' }) → wpAny (model prog w) A (Builtin.SmallTypes.nextOf (.ref it)) Q E s
  fin : ∀ {A : Around} {E : Value → Shared → Prop} {s : Shared} {i : Nat} {Q : Value → Shared → Prop}, A.handled = none → St i s.heap → g i = none → (∀ h' e, Heap.ExtBut it s.heap h' → (∃ o, h'.get? e = some o ∧ o.cls = .type "StopIteration") → E (.ref e) { s with heap := h' }) → wpAny (model prog w) A (Builtin.SmallTypes.nextOf (.ref it)) Q E s
  keep : ∀ {i : Nat} {h h' : Heap}, St i h → (∀ c o, c = it ∨ c = l → h.get? c = some o → h'.get? c = some o) → St i h'
  there : ∀ {i : Nat} {h : Heap}, St i h → (∃ o, h.get? it = some o) ∧ ∃ o, h.get? l = some o
section
variable {prog : Program} {w : World}
theorem advL {it l : Addr} (n : l ≠ it) (xs : Array Value) : Adv prog w it l (fun i h => h.IsListIter it l i ∧ h.IsList l xs) (fun i => xs[i]?) where
  item := fun st hx q => wpAny_nextOf_list_item st.1 st.2 hx fun h' a b => q h' ⟨a, st.2.extBut b.extBut n⟩ b
  fin := fun hh st hx q => wpAny_nextOf_list_end hh st.1 st.2 hx q
  keep := fun st k => ⟨st.1.at fun o e => k _ o (.inl rfl) e, st.2.at fun o e => k _ o (.inr rfl) e⟩
  there := fun st => ⟨let ⟨o, h, _⟩ := st.1; ⟨o, h⟩, let ⟨o, h, _⟩ := st.2; ⟨o, h⟩⟩
theorem advT {it l : Addr} (n : l ≠ it) (xs : Array Value) : Adv prog w it l (fun i h => h.IsTupleIter it l i ∧ h.IsTuple l xs) (fun i => xs[i]?) where
  item := fun st hx q => RZ.nextOf_tuple_item st.1 st.2 hx fun h' a b => q h' ⟨a, st.2.extBut b.extBut n⟩ b
  fin := fun hh st hx q => RZ.nextOf_tuple_end hh st.1 st.2 hx q
  keep := fun st k => ⟨st.1.at fun o e => k _ o (.inl rfl) e, st.2.at fun o e => k _ o (.inr rfl) e⟩
  there := fun st => ⟨let ⟨o, h, _⟩ := st.1; ⟨o, h⟩, let ⟨o, h, _⟩ := st.2; ⟨o, h⟩⟩
variable {A : Around} {E : Value → Shared → Prop} {s : Shared} {z TI TO i1 i2 l1 l2 : Addr} {St1 St2 : Nat → Heap → Prop} {g1 g2 : Nat → Option Value} {k1 k2 : Nat} {x y : Value}
theorem Adv.same {it l c : Addr} {St : Nat → Heap → Prop} {g : Nat → Option Value} (a : Adv prog w it l St g) {i : Nat} {h h' : Heap} (st : St i h) (sb : Heap.SameBut c h h') (n1 : it ≠ c) (n2 : l ≠ c) : St i h' :=
  a.keep st fun b o hb e => sb.extBut _ _ (by rcases hb with rfl | rfl; exact n1; exact n2) e
/-- the first pair: the zip has given out nothing yet -/
theorem zipG_item {a b : Value} {Q : Value → Shared → Prop} (D : ZipApart z TI TO i1 i2 l1 l2) (G1 : Adv prog w i1 l1 St1 g1) (G2 : Adv prog w i2 l2 St2 g2)
    (hz : IsZip s.heap z TI TO .none) (hTI : IsPair s.heap TI (.ref i1) (.ref i2)) (hTO : IsPair s.heap TO a b) (h1 : St1 k1 s.heap) (h2 : St2 k2 s.heap) (hx : g1 k1 = some x) (hy : g2 k2 = some y)
    (hQ : ∀ h', IsZip h' z TI TO (rawInt s.heap.objs.size) → St1 (k1 + 1) h' → St2 (k2 + 1) h' → IsPair h' s.heap.objs.size x y → h'.objs.size = s.heap.objs.size + 1 →
      (∀ c o, c ≠ z → c ≠ TO → c ≠ i1 → c ≠ i2 → s.heap.get? c = some o → h'.get? c = some o) → Q (.ref s.heap.objs.size) { s with heap := h' }) :
    wpAny (model prog w) A (Builtin.«zip.__next__» ⟨[.ref z], []⟩) (fun fin s' => ∃ v, fin = .done (.ret v) ∧ Q v s') E s := by
  show wpAny _ _ (field (.ref z) 2 >>= _) _ _ _
  refine wpAny_bind (wpAny_field hz rfl (x := .bool false) rfl ?_)
  show wpAny _ _ (field (.ref z) 3 >>= _) _ _ _
  refine wpAny_bind (wpAny_field hz rfl (x := .ref TI) rfl (wpAny_bind (wpAny_seqItems hTI rfl ?_)))
  show wpAny _ _ (Builtin.SmallTypes.ownedTupleIsFree (.ref z) >>= _) _ _ _
  refine wpAny_bind ?_
  unfold Builtin.SmallTypes.ownedTupleIsFree
  refine wpAny_bind (wpAny_field hz rfl (x := .none) rfl (wpAny_pure ?_))
  simp only [if_true]
  refine wpAny_bind (wpAny_rule (wpAny_bind (wpAny_field hz rfl (x := .ref TO) rfl (wpAny_bind (wpAny_setField_rec hz (by simp) fun ha hza sa => ?_)))))
  replace hza : IsZip ha z TI TO .ellipsis := hza
  refine wpAny_bind ?_
  simp only [List.zipIdx_cons, List.zipIdx_nil, List.forIn_cons, List.forIn_nil]
  refine wpAny_bind (wpAny_bind (wpAny_onRaise ?_))
  show wpAny _ _ (Builtin.SmallTypes.nextOf (.ref i1) >>= _) _ _ _
  refine wpAny_bind (G1.item (G1.same h1 sa D.i1z D.l1z) hx fun hb h1b sb => wpAny_pure ?_)
  have oTb : IsPair hb TO a b := sb.extBut _ _ D.TOi1 (sa.extBut _ _ D.TOz hTO)
  refine wpAny_bind (wpAny_seqItems oTb rfl (wpAny_bind (wpAny_updateSeq_pair oTb fun hc oTc sc => ?_)))
  replace oTc : IsPair hc TO x b := oTc
  refine wpAny_bind (wpAny_letGo (wpAny_pure (wpAny_bind (wpAny_bind (wpAny_onRaise ?_)))))
  show wpAny _ _ (Builtin.SmallTypes.nextOf (.ref i2) >>= _) _ _ _
  have h2c := G2.same (G2.same (G2.same h2 sa D.i2z D.l2z) sb D.i12.symm D.l2i1) sc D.TOi2.symm D.l2TO
  refine wpAny_bind (G2.item h2c hy fun hd h2d sd => wpAny_pure ?_)
  have oTd : IsPair hd TO x b := sd.extBut _ _ D.TOi2 oTc
  refine wpAny_bind (wpAny_seqItems oTd rfl (wpAny_bind (wpAny_updateSeq_pair oTd fun he oTe se => ?_)))
  replace oTe : IsPair he TO x y := oTe
  refine wpAny_bind (wpAny_letGo (wpAny_pure (wpAny_pure (wpAny_bind (wpAny_seqItems oTe rfl (wpAny_bind (wpAny_newTuple ?_)))))))
  have size : he.objs.size = s.heap.objs.size := by rw [se.1, sd.1, sc.1, sb.1, sa.1]
  have hze : IsZip he z TI TO .ellipsis := se.extBut _ _ D.TOz.symm (sd.extBut _ _ D.i2z.symm (sc.extBut _ _ D.TOz.symm (sb.extBut _ _ D.i1z.symm hza)))
  have h1e : St1 (k1 + 1) he := G1.same (G1.same (G1.same h1b sc D.TOi1.symm D.l1TO) sd D.i12 D.l1i2) se D.TOi1.symm D.l1TO
  have h2e : St2 (k2 + 1) he := G2.same h2d se D.TOi2.symm D.l2TO
  have zlt : z < he.objs.size := Heap.lt_size hze
  show wpAny _ _ (Builtin.SmallTypes.ownedTupleHandOut (.ref z) (.ref he.objs.size) >>= _) _ _ _
  refine wpAny_bind ?_
  unfold Builtin.SmallTypes.ownedTupleHandOut
  have hzp : IsZip (he.push { cls := .type "tuple", data := .seq #[x, y] }) z TI TO .ellipsis := Heap.get?_push_of_some _ hze
  refine wpAny_bind (wpAny_setField_rec hzp (by simp) fun hf hzf sf => ?_)
  replace hzf : IsZip hf z TI TO (rawInt he.objs.size) := hzf
  refine wpAny_setField_rec hzf (by simp) fun hg hzg sg => ?_
  replace hzg : IsZip hg z TI TO (rawInt he.objs.size) := hzg
  have up : ∀ c o, c ≠ z → he.get? c = some o → hg.get? c = some o := fun c o c1 e => sg.extBut _ _ c1 (sf.extBut _ _ c1 (Heap.get?_push_of_some _ e))
  have pair : IsPair hg he.objs.size x y := sg.extBut _ _ (Nat.ne_of_gt zlt) (sf.extBut _ _ (Nat.ne_of_gt zlt) (Heap.get?_push_size _ rfl))
  have size2 : hg.objs.size = he.objs.size + 1 := by rw [sg.1, sf.1, Heap.size_push]
  rw [size] at hzg pair size2
  refine wpAny_pure ⟨_, rfl, ?_⟩
  show Q (.ref he.objs.size) _
  rw [size]
  exact hQ hg hzg (G1.keep h1e fun c o hc e => up c o (by rcases hc with rfl | rfl; exact D.i1z; exact D.l1z) e) (G2.keep h2e fun c o hc e => up c o (by rcases hc with rfl | rfl; exact D.i2z; exact D.l2z) e) pair size2
    fun c o c1 c2 c3 c4 e => up c o c1 (se.extBut _ _ c2 (sd.extBut _ _ c4 (sc.extBut _ _ c2 (sb.extBut _ _ c3 (sa.extBut _ _ c1 e)))))
/-- a later pair: what was given out before is still there -/
theorem zipG_more {T : Addr} {f : Bool} {oT : Obj} {Q : Value → Shared → Prop} (D : ZipApart z TI TO i1 i2 l1 l2) (G1 : Adv prog w i1 l1 St1 g1) (G2 : Adv prog w i2 l2 St2 g2)
    (hz : IsZipHeld s.heap z TI TO T f) (hT : s.heap.get? T = some oT) (hTI : IsPair s.heap TI (.ref i1) (.ref i2)) (h1 : St1 k1 s.heap) (h2 : St2 k2 s.heap) (hx : g1 k1 = some x) (hy : g2 k2 = some y)
    (hQ : ∀ h', IsZipHeld h' z TI TO T true → St1 (k1 + 1) h' → St2 (k2 + 1) h' → IsPair h' s.heap.objs.size x y → h'.objs.size = s.heap.objs.size + 1 →
      (∀ c o, c ≠ z → c ≠ i1 → c ≠ i2 → s.heap.get? c = some o → h'.get? c = some o) → Q (.ref s.heap.objs.size) { s with heap := h' }) :
    wpAny (model prog w) A (Builtin.«zip.__next__» ⟨[.ref z], []⟩) (fun fin s' => ∃ v, fin = .done (.ret v) ∧ Q v s') E s := by
  show wpAny _ _ (field (.ref z) 2 >>= _) _ _ _
  refine wpAny_bind (wpAny_field hz rfl (x := .bool false) rfl ?_)
  show wpAny _ _ (field (.ref z) 3 >>= _) _ _ _
  refine wpAny_bind (wpAny_field hz rfl (x := .ref TI) rfl (wpAny_bind (wpAny_seqItems hTI rfl ?_)))
  show wpAny _ _ (Builtin.SmallTypes.ownedTupleIsFree (.ref z) >>= _) _ _ _
  refine wpAny_bind (wpAny_tupleHeld_zip hz hT fun ha hza sa => ?_)
  simp only [Bool.false_eq_true, if_false]
  refine wpAny_bind ?_
  rw [← Array.forIn_toList]
  simp only [List.forIn_cons, List.forIn_nil]
  refine wpAny_bind (wpAny_bind (wpAny_holding ?_))
  show wpAny _ _ (Builtin.SmallTypes.nextOf (.ref i1) >>= _) _ _ _
  refine wpAny_bind (G1.item (s := { s with heap := ha }) (G1.same h1 sa D.i1z D.l1z) hx fun hb h1b sb => wpAny_pure (wpAny_pure (wpAny_bind (wpAny_bind (wpAny_holding ?_)))))
  show wpAny _ _ (Builtin.SmallTypes.nextOf (.ref i2) >>= _) _ _ _
  refine wpAny_bind (G2.item (s := { s with heap := hb }) (G2.same (G2.same h2 sa D.i2z D.l2z) sb D.i12.symm D.l2i1) hy fun hc h2c sc => wpAny_pure (wpAny_pure (wpAny_pure ?_)))
  show wpAny _ _ (newTuple [x, y] >>= _) _ _ _
  refine wpAny_bind (wpAny_newTuple ?_)
  have size : hc.objs.size = s.heap.objs.size := by rw [sc.1, sb.1, sa.1]
  have hzc : IsZipHeld hc z TI TO T true := sc.extBut _ _ D.i2z.symm (sb.extBut _ _ D.i1z.symm hza)
  have h1c : St1 (k1 + 1) hc := G1.same h1b sc D.i12 D.l1i2
  refine wpAny_pure ⟨_, rfl, ?_⟩
  show Q (.ref hc.objs.size) _
  have pair : IsPair (hc.push { cls := .type "tuple", data := .seq #[x, y] }) hc.objs.size x y := Heap.get?_push_size _ rfl
  have size2 : (hc.push { cls := .type "tuple", data := .seq #[x, y] }).objs.size = hc.objs.size + 1 := Heap.size_push ..
  rw [size] at pair size2 ⊢
  exact hQ _ (Heap.get?_push_of_some _ hzc) (G1.keep h1c fun c o _ e => Heap.get?_push_of_some _ e) (G2.keep h2c fun c o _ e => Heap.get?_push_of_some _ e) pair size2
    fun c o c1 c2 c3 e => Heap.get?_push_of_some _ (sc.extBut _ _ c3 (sb.extBut _ _ c2 (sa.extBut _ _ c1 e)))
/-- the first of the two has come to its end, and something was given out before -/
theorem zipG_end {T : Addr} {f : Bool} {oT : Obj} {Q : Fin → Shared → Prop} (hh : A.handled = none) (D : ZipApart z TI TO i1 i2 l1 l2) (G1 : Adv prog w i1 l1 St1 g1)
    (hz : IsZipHeld s.heap z TI TO T f) (hT : s.heap.get? T = some oT) (hTI : IsPair s.heap TI (.ref i1) (.ref i2)) (h1 : St1 k1 s.heap) (hx : g1 k1 = none)
    (hE : ∀ h' e, (∀ c o, c ≠ z → c ≠ i1 → c ≠ i2 → s.heap.get? c = some o → h'.get? c = some o) → (∃ o, h'.get? e = some o ∧ o.cls = .type "StopIteration") → E (.ref e) { s with heap := h' }) :
    wpAny (model prog w) A (Builtin.«zip.__next__» ⟨[.ref z], []⟩) Q E s := by
  show wpAny _ _ (field (.ref z) 2 >>= _) _ _ _
  refine wpAny_bind (wpAny_field hz rfl (x := .bool false) rfl ?_)
  show wpAny _ _ (field (.ref z) 3 >>= _) _ _ _
  refine wpAny_bind (wpAny_field hz rfl (x := .ref TI) rfl (wpAny_bind (wpAny_seqItems hTI rfl ?_)))
  show wpAny _ _ (Builtin.SmallTypes.ownedTupleIsFree (.ref z) >>= _) _ _ _
  refine wpAny_bind (wpAny_tupleHeld_zip hz hT fun ha hza sa => ?_)
  simp only [Bool.false_eq_true, if_false]
  refine wpAny_bind ?_
  rw [← Array.forIn_toList]
  simp only [List.forIn_cons, List.forIn_nil]
  refine wpAny_bind (wpAny_bind (wpAny_holding ?_))
  show wpAny _ _ (Builtin.SmallTypes.nextOf (.ref i1) >>= _) _ _ _
  exact wpAny_bind (G1.fin (s := { s with heap := ha }) hh (G1.same h1 sa D.i1z D.l1z) hx fun hb e sb he => hE hb e (fun c o c1 c2 _ x => sb _ _ c2 (sa.extBut _ _ c1 x)) he)
theorem zip_py {Q : Option Value → Shared → Prop} (hT : s.TypeIs (.ref z) "zip")
    (h : ∀ {E' : Value → Shared → Prop}, wpAny (model prog w) A.in1 (Builtin.«zip.__next__» ⟨[.ref z], []⟩) (fun fin s' => ∃ v, fin = .done (.ret v) ∧ Q (some v) s') E' s) : wpAny (model prog w) A (pyNext (.ref z)) Q E s := by
  unfold pyNext
  exact wpAny_bind (wpAny_attempt (wpAny_callSpecial?_slot (name := Str.ofString "__next__") hT F.slot_zip_next
    (wpAny_call_entry F.slot_zip_next hT F.entry_zip_next (wpAny_mono h (fun fin s' hq => by
      obtain ⟨v, rfl, q⟩ := hq
      exact ⟨v, rfl, wpAny_pure q⟩) fun _ _ e => e) (F.args_zip_next_1 _))))
theorem zip_py_end {T : Addr} {f : Bool} {oT : Obj} {Q : Option Value → Shared → Prop} (hh : A.handled = none) (D : ZipApart z TI TO i1 i2 l1 l2) (G1 : Adv prog w i1 l1 St1 g1)
    (hz : IsZipHeld s.heap z TI TO T f) (hT : s.heap.get? T = some oT) (hTI : IsPair s.heap TI (.ref i1) (.ref i2)) (h1 : St1 k1 s.heap) (hx : g1 k1 = none)
    (hQ : ∀ h', (∀ c o, c ≠ z → c ≠ i1 → c ≠ i2 → s.heap.get? c = some o → h'.get? c = some o) → Q none { s with heap := h' }) : wpAny (model prog w) A (pyNext (.ref z)) Q E s := by
  have hTy : s.TypeIs (.ref z) "zip" := ⟨_, hz, rfl⟩
  unfold pyNext
  refine wpAny_bind (wpAny_attempt (wpAny_callSpecial?_slot (name := Str.ofString "__next__") hTy F.slot_zip_next
    (wpAny_call_entry F.slot_zip_next hTy F.entry_zip_next (zipG_end hh D G1 hz hT hTI h1 hx fun h' e hk he => ?_) (F.args_zip_next_1 _))))
  obtain ⟨o, ho, hc⟩ := he
  exact wpAny_bind (wpAny_isInstance (T := "StopIteration") (b := true) ⟨o, ho, hc⟩ isSubtype_stop (wpAny_pure (hQ _ hk)))
theorem zipM_arg (z TI TO i1 i2 l1 l2 : Addr) (D : ZipApart z TI TO i1 i2 l1 l2) {n : Nat} (hn : 0 < n) (G1 : Adv prog w i1 l1 St1 g1) (G2 : Adv prog w i2 l2 St2 g2) (e1 : ∀ i, i < n → ∃ v, g1 i = some v) (e2 : ∀ i, i < n → ∃ v, g2 i = some v) (e3 : g1 n = none) :
    PairArg prog w "zip" z [z, TI, TO, i1, i2, l1, l2] [z, TO, i1, i2] n (fun i k v => g1 i = some k ∧ g2 i = some v) (fun h => IsZip h z TI TO .none ∧ IsPair h TI (.ref i1) (.ref i2) ∧ (∃ a b, IsPair h TO a b) ∧ St1 0 h ∧ St2 0 h) where
  type := fun s ok => ⟨_, ok.1, rfl⟩
  notDict := by decide
  keep := fun h h' ok hk => ⟨hk _ _ ok.1, hk _ _ ok.2.1, let ⟨a, b, h⟩ := ok.2.2.1; ⟨a, b, hk _ _ h⟩, G1.keep ok.2.2.2.1 fun c o _ e => hk c o e, G2.keep ok.2.2.2.2 fun c o _ e => hk c o e⟩
  there := fun h ok b hb => by
    obtain ⟨hz, hTI, ⟨a, c, hTO⟩, h1, h2⟩ := ok
    simp only [List.mem_cons, List.not_mem_nil, or_false] at hb
    rcases hb with rfl | rfl | rfl | rfl | rfl | rfl | rfl
    · exact ⟨_, hz⟩
    · exact ⟨_, hTI⟩
    · exact ⟨_, hTO⟩
    · exact (G1.there h1).1
    · exact (G2.there h2).1
    · exact (G1.there h1).2
    · exact (G2.there h2).2
  sub := fun b hb => by
    simp only [List.mem_cons, List.not_mem_nil, or_false] at hb ⊢
    rcases hb with h | h | h | h
    · exact .inl h
    · exact .inr (.inr (.inl h))
    · exact .inr (.inr (.inr (.inl h)))
    · exact .inr (.inr (.inr (.inr (.inl h))))
  noKeys := fun A s Q E hA ok h => getAttrOr_miss_zip ok.1 rfl rfl rfl zip_no_keys (by decide +kernel) hA h
  iter := fun A s d Q E hA ok hd hdf h => by
    obtain ⟨hz, hTI, ⟨a, b, hTO⟩, h1, h2⟩ := ok
    simp only [List.mem_cons, List.not_mem_nil, or_false, not_or] at hdf
    obtain ⟨dz, dTI, dTO, di1, di2, dl1, dl2⟩ := hdf
    have nd : ∀ {c : Addr}, d ≠ c → c ≠ d := fun h e => h e.symm
    refine wpAny_pyIter_zip hz (h z [z, TO, i1, i2] (fun i h => IsPair h TI (.ref i1) (.ref i2) ∧ St1 i h ∧ St2 i h ∧
      ((i = 0 ∧ IsZip h z TI TO .none ∧ ∃ a b, IsPair h TO a b) ∨ ∃ T f oT, IsZipHeld h z TI TO T f ∧ h.get? T = some oT ∧ T ≠ z ∧ T ≠ i1 ∧ T ≠ i2 ∧ T ≠ d)) s.heap s.toks ?_
      ⟨hTI, h1, h2, .inl ⟨rfl, hz, a, b, hTO⟩⟩ (fun _ _ e => e) fun b hb => .inl hb)
    refine ⟨fun hm => ?_, fun i ha hb st hk => ?_, fun i s₁ Q₁ E₁ hi st hds hQ => ?_, fun s₁ Q₁ E₁ st hQ => ?_⟩
    · simp only [List.mem_cons, List.not_mem_nil, or_false] at hm
      rcases hm with e | e | e | e
      · exact dz e
      · exact dTO e
      · exact di1 e
      · exact di2 e
    · obtain ⟨hTI, h1, h2, hz⟩ := st
      refine ⟨hk _ _ (nd dTI) hTI, G1.keep h1 fun c o hc e => hk c o (by rcases hc with rfl | rfl; exact nd di1; exact nd dl1) e, G2.keep h2 fun c o hc e => hk c o (by rcases hc with rfl | rfl; exact nd di2; exact nd dl2) e, ?_⟩
      rcases hz with ⟨h0, hz, a, b, hTO⟩ | ⟨T, f, oT, hz, hT, r1, r2, r3, r4⟩
      · exact .inl ⟨h0, hk _ _ (nd dz) hz, a, b, hk _ _ (nd dTO) hTO⟩
      · exact .inr ⟨T, f, oT, hk _ _ (nd dz) hz, hk _ _ r4 hT, r1, r2, r3, r4⟩
    · obtain ⟨hTI, h1, h2, hz⟩ := st
      obtain ⟨x, ex⟩ := e1 i hi
      obtain ⟨y, ey⟩ := e2 i hi
      have lt : ∀ {c o}, s₁.heap.get? c = some o → s₁.heap.objs.size ≠ c := fun e => Nat.ne_of_gt (Heap.lt_size e)
      have n1 : s₁.heap.objs.size ≠ i1 := let ⟨_, e⟩ := (G1.there h1).1; lt e
      have n2 : s₁.heap.objs.size ≠ i2 := let ⟨_, e⟩ := (G2.there h2).1; lt e
      rcases hz with ⟨_, hz, a, b, hTO⟩ | ⟨T, f, oT, hz, hT, r1, r2, r3, r4⟩
      · refine zip_py (z := z) ⟨_, hz, rfl⟩ (zipG_item (Q := fun v s' => Q₁ (some v) s') D G1 G2 hz hTI hTO h1 h2 ex ey fun h' a1 a3 a4 a5 a6 hk => ?_)
        exact hQ s₁.heap.objs.size _ _ h' s₁.toks ⟨ex, ey⟩ (.inl ⟨_, a5, rfl, _, rfl⟩) ⟨hk _ _ D.TIz D.TITO D.TIi1 D.TIi2 hTI, a3, a4, .inr ⟨s₁.heap.objs.size, false, _, a1, a5, lt hz, n1, n2, Nat.ne_of_gt hds⟩⟩
          fun c o hc e => hk c o (fun x => hc (by simp [x])) (fun x => hc (by simp [x])) (fun x => hc (by simp [x])) (fun x => hc (by simp [x])) e
      · refine zip_py (z := z) ⟨_, hz, rfl⟩ (zipG_more (Q := fun v s' => Q₁ (some v) s') D G1 G2 hz hT hTI h1 h2 ex ey fun h' a1 a3 a4 a5 a6 hk => ?_)
        exact hQ s₁.heap.objs.size _ _ h' s₁.toks ⟨ex, ey⟩ (.inl ⟨_, a5, rfl, _, rfl⟩) ⟨hk _ _ D.TIz D.TIi1 D.TIi2 hTI, a3, a4, .inr ⟨T, true, oT, a1, hk _ _ r1 r2 r3 hT, r1, r2, r3, r4⟩⟩
          fun c o hc e => hk c o (fun x => hc (by simp [x])) (fun x => hc (by simp [x])) (fun x => hc (by simp [x])) e
    · obtain ⟨hTI, h1, h2, hz⟩ := st
      rcases hz with ⟨h0, _⟩ | ⟨T, f, oT, hz, hT, r1, r2, r3, r4⟩
      · omega
      · exact zip_py_end hA D G1 hz hT hTI h1 e3 fun h' hk => hQ h' s₁.toks fun c o hc e => hk c o (fun x => hc (by simp [x])) (fun x => hc (by simp [x])) (fun x => hc (by simp [x])) e
end
end Pu

set_option Elab.async false
set_option linter.all false
set_option maxRecDepth 100000
set_option maxHeartbeats 1000000
/-! zip(list, tuple) is made; dict(zip(list, tuple)) -/
namespace Pu
open PySem
open PySem.Sem (wp)
abbrev zmA (h : Heap) (a : Addr) : Heap := h.push { cls := .type "list_iterator", data := .fields #[.ref a, .int 0 0] }
abbrev zmB (h : Heap) (a b : Addr) : Heap := (zmA h a).push { cls := .type "tuple_iterator", data := .fields #[.ref b, .int 0 0] }
abbrev zmC (h : Heap) (a b : Addr) : Heap := (zmB h a b).push { cls := .type "tuple", data := .seq #[.ref h.objs.size, .ref (zmA h a).objs.size] }
abbrev zmD (h : Heap) (a b : Addr) : Heap := (zmC h a b).push { cls := .type "tuple", data := .seq #[.none, .none] }
abbrev zmE (h : Heap) (a b : Addr) : Heap := (zmD h a b).push { cls := .type "zip", data := .fields #[.none, .bool false, .bool false, .ref (zmB h a b).objs.size, .ref (zmC h a b).objs.size] }
theorem meets_zipM (a b : Addr) (xs ys : Array Value) : Meets (Builtin.«zip.__new__» ⟨[.type "zip", .ref a, .ref b], []⟩) (fun _ R s => s.heap.IsList a xs ∧ s.heap.IsTuple b ys ∧ R (.ok (.ret (.ref (zmD s.heap a b).objs.size))) { s with heap := zmE s.heap a b }) :=
  .of_wp fun prog w A R s h => by
    obtain ⟨hp, g, d, tk, os⟩ := s
    obtain ⟨ha, hb, h⟩ := h
    have sub := sub_zip
    have La : Heap.IsList (Shared.heap ⟨hp, g, d, tk, os⟩) a xs := ha
    have Lb : Heap.IsTuple (Shared.heap ⟨hp.push { cls := .type "list_iterator", data := .fields #[.ref a, .int 0 0] }, g, d, tk, os⟩) b ys := Heap.IsTuple.push hb _
    wp_walk using wpAny_pyIter_list La, wpAny_pyIter_tuple Lb
    exact ⟨_, rfl, h⟩
section
variable {prog : Program} {w : World} {A : Around} {E : Value → Shared → Prop} {s : Shared}
theorem call_zipM {a b : Addr} {xs ys : Array Value} {Q : Value → Shared → Prop} (ha : s.heap.IsList a xs) (hb : s.heap.IsTuple b ys)
    (h : ∀ h', IsZip h' (s.heap.objs.size + 4) (s.heap.objs.size + 2) (s.heap.objs.size + 3) .none → IsPair h' (s.heap.objs.size + 2) (.ref s.heap.objs.size) (.ref (s.heap.objs.size + 1)) → IsPair h' (s.heap.objs.size + 3) .none .none →
      h'.IsListIter s.heap.objs.size a 0 → h'.IsTupleIter (s.heap.objs.size + 1) b 0 → (∀ c o, s.heap.get? c = some o → h'.get? c = some o) → Q (.ref (s.heap.objs.size + 4)) { s with heap := h' }) :
    wpAny (model prog w) A (call (.type "zip") [.ref a, .ref b]) Q E s := by
  refine callType_new F.called_zip (by decide) (F.typeCall_zip_2 _ _) (F.newCall_zip_2 _ _) (fun obj => F.args_object_init_3 obj _ _) F.entry_zip_new (meets_zipM a b xs ys) ⟨ha, hb, ?_⟩
  have zA : (zmA s.heap a).objs.size = s.heap.objs.size + 1 := Heap.size_push ..
  have zB : (zmB s.heap a b).objs.size = s.heap.objs.size + 2 := by rw [Heap.size_push, zA]
  have zC : (zmC s.heap a b).objs.size = s.heap.objs.size + 3 := by rw [Heap.size_push, zB]
  have zD : (zmD s.heap a b).objs.size = s.heap.objs.size + 4 := by rw [Heap.size_push, zC]
  have up1 : ∀ {h : Heap} {c : Addr} {o o' : Obj}, h.get? c = some o → (h.push o').get? c = some o := fun e => Heap.get?_push_of_some _ e
  have gE : (zmE s.heap a b).get? (zmD s.heap a b).objs.size = some _ := Heap.get?_push_size _ rfl
  have gD : (zmE s.heap a b).get? (zmC s.heap a b).objs.size = some _ := up1 (Heap.get?_push_size _ rfl)
  have gC : (zmE s.heap a b).get? (zmB s.heap a b).objs.size = some _ := up1 (up1 (Heap.get?_push_size _ rfl))
  have gB : (zmE s.heap a b).get? (zmA s.heap a).objs.size = some _ := up1 (up1 (up1 (Heap.get?_push_size _ rfl)))
  have gA : (zmE s.heap a b).get? s.heap.objs.size = some _ := up1 (up1 (up1 (up1 (Heap.get?_push_size _ rfl))))
  show _ ∧ _
  rw [zB, zC, zD] at gE
  rw [zA, zB] at gC
  rw [zC] at gD
  rw [zA] at gB
  rw [zD]
  exact ⟨⟨_, gE, rfl⟩, h _ gE gC gD ⟨_, gA, rfl, rfl⟩ ⟨_, gB, rfl, rfl⟩ fun c o x => up1 (up1 (up1 (up1 (up1 x))))⟩
end
end Pu

set_option Elab.async false
set_option linter.all false
set_option maxRecDepth 100000
set_option maxHeartbeats 1000000
/-! dict(zip(list, tuple)) as an expression -/
namespace Pu
open PySem PySem.Spec PyProof.Rows L2
def tDictZ (K : PySem.W.Frag) (ta : TA) : TE := fun σ H Q => ta σ H fun xs H1 => ∃ (a b : Addr) (ks : List Key) (vs : List V), xs = [.ref a, .ref b] ∧ SqL K H1 a (ks.map kV) ∧ SqT K H1 b vs ∧ ks.length = vs.length ∧ 0 < ks.length ∧ ks.length ≤ 1000 ∧
  ∀ p, H1 p = none → Q (.ref p) (upd H1 p (.dK (mergeK [] (ks.zip vs))))
theorem kv_zip : ∀ {ks : List Key} {vs : List V} {us : List Value}, Vals vs us → KV (ks.zip vs) (ks.zip us)
  | [], _, _, _ => .nil
  | _ :: _, _, _, .nil => .nil
  | k :: ks, _, _, .cons r t => .cons ⟨rfl, r⟩ (kv_zip t)
theorem vals_at : ∀ {vs : List V} {us : List Value} {i : Nat} {u : Value}, Vals vs us → us[i]? = some u → ∃ v, vs[i]? = some v ∧ RelV v u
  | _, _, _, _, .nil, h => by simp at h
  | _, _, 0, _, .cons r _, h => ⟨_, rfl, by cases h; exact r⟩
  | _, _, i + 1, _, .cons _ t, h => vals_at (i := i) t (by simpa using h)
theorem pe_dictZ {X : Cx} {e e2 : Expr} {ta : TA} {p p2 q pos : Pos} (hg : Gl X "dict") (hm : X.mg "dict" = none) (hg2 : Gl X "zip") (hm2 : X.mg "zip" = none) (ha : PA X [e, e2] ta) (hc : X.calm = true := by rfl)
    (hs : starEach [e, e2] X.env = (false, eval e X.env) :: starEach [e2] X.env := by rfl) (hpl : (backTo q (starEach [e2] X.env)).any (·.1) = false := by rfl) :
    PE X (.Call (.Name "dict" p) [.Call (.Name "zip" p2) [e, e2] [] q] [] pos) (tDictZ X.K ta) := by
  refine ⟨fun pins s σ H Q I h => ?_⟩
  refine Call_ (ld_blt I hg hm PyProof.Rows.boot_dict ?_)
  refine PyProof.Rows.callWith_type1 (PyProof.Rows.args_cons ?_ rfl) rfl rfl
  refine Call_ (ld_blt I hg2 hm2 PyProof.Rows.boot_zip (PyProof.Rows.callWith_type1 (thn (ha.run q pins s σ H _ I h) fun us s1 ⟨xs, H1, I1, r1, q1⟩ => ?_) hs hpl))
  obtain ⟨a, b, ks, vs, ex, hqa, hqb, hlen, h0, hz0, q⟩ := q1
  subst ex
  cases r1 with
  | cons r rr =>
    cases rr with
    | cons r' rr =>
      cases rr
      cases r
      cases r'
      obtain ⟨its, rv, pl, _⟩ := I1.list hqa
      obtain ⟨its2, rv2, pl2, _⟩ := I1.tuple hqb
      have la : a < s1.heap.objs.size := pl.lt
      have lb : b < s1.heap.objs.size := pl2.lt
      have l1 : its.length = ks.length := by rw [← rv.length, List.length_map]
      have l2 : its2.length = ks.length := by rw [← rv2.length, hlen]
      refine call_zipM pl.isList pl2 fun h' hz hTI hTO h1 h2 hk => ?_
      refine PyProof.Rows.args_nil ?_
      have D := PySem.W.ktu_apart s1.heap.objs.size a b la lb
      have G1 := advL (prog := X.prog) (w := X.w) D.l1i1 its.toArray
      have G2 := advT (prog := X.prog) (w := X.w) D.l2i2 its2.toArray
      have A := zipM_arg _ _ _ _ _ a b D (n := ks.length) h0 G1 G2 (fun i hi => ⟨its[i]'(by omega), by simp [List.getElem?_eq_getElem (show i < its.length by omega)]⟩) (fun i hi => ⟨its2[i]'(by omega), by simp [List.getElem?_eq_getElem (show i < its2.length by omega)]⟩) (by simp [l1])
      have I2 : Inv X pins σ H1 { s1 with heap := h' } := I1.kept (t' := s1.toks) hk
      have hsz : s1.heap.objs.size + 5 ≤ h'.objs.size := Heap.lt_size hz
      refine PySem.call_dict_pairs (knd := mixKind X.prog X.w) (kvs := ks.zip its2) (s := { s1 with heap := h' }) A (I1.ok.hd hc) ⟨hz, hTI, ⟨_, _, hTO⟩, ⟨h1, pl.isList.at fun o e => hk _ o e⟩, ⟨h2, let ⟨o, e, x⟩ := pl2; ⟨o, hk _ _ e, x⟩⟩⟩ ⟨by rw [List.length_zip, l2, Nat.min_self], fun i key v hr => ?_⟩ (by rw [sizeLine_eq]; omega) fun h2' tk hd hk2 => ?_
      · obtain ⟨e1, e2⟩ := hr
        have e1 : its[i]? = some key := by simpa using e1
        have e2 : its2[i]? = some v := by simpa using e2
        obtain ⟨kv, hkv, rkv⟩ := vals_at rv e1
        rw [List.getElem?_map] at hkv
        cases hki : ks[i]? with
        | none => rw [hki] at hkv; cases hkv
        | some k =>
          rw [hki] at hkv
          cases hkv
          exact ⟨k, by rw [List.getElem?_zip_eq_some]; exact ⟨hki, e2⟩, kV_is (P := X.prog) (w := X.w) rkv⟩
      · have nw : ∀ {c : Addr} {o : Obj}, s1.heap.get? c = some o → c ∉ [s1.heap.objs.size + 4, s1.heap.objs.size + 3, s1.heap.objs.size, s1.heap.objs.size + 1] := fun {c o} e hc => by
          have := Heap.lt_size e
          simp only [List.mem_cons, List.not_mem_nil, or_false] at hc
          have ge : s1.heap.objs.size ≤ c := by
            rcases hc with h | h | h | h
            · rw [h]; exact Nat.le_add_right _ _
            · rw [h]; exact Nat.le_add_right _ _
            · rw [h]; exact Nat.le_refl _
            · rw [h]; exact Nat.le_add_right _ _
          exact absurd this (Nat.not_lt.mpr ge)
        have hbig : s1.heap.objs.size ≤ h'.objs.size := by omega
        have rel : KV (ks.zip vs) (ks.zip its2) := kv_zip rv2
        have hm : (h'.objs.size == sysModules) = false := beq_eq_false_iff_ne.mpr (Nat.ne_of_gt (Nat.lt_of_lt_of_le I1.big hbig))
        have hlen2 : (mergeK [] (ks.zip vs)).length ≤ sizeLine := by
          refine Nat.le_trans (length_mergeK _ []) ?_
          rw [List.length_nil, Nat.zero_add, List.length_zip, sizeLine_eq]
          omega
        exact ⟨.ref h'.objs.size, upd H1 h'.objs.size (.dK (mergeK [] (ks.zip vs))), I1.laid (t' := tk) (fun c o e => hk2 c o (nw e) (hk c o e)) hbig (show ObjOk X.prog X.w _ _ _ (.dK (mergeK [] (ks.zip vs))) from ⟨hlen2, hm, merged [] (ks.zip its2), KV.merge rel .nil, hd⟩), rfl, q _ (I1.hok.fresh hbig)⟩
/-- t + u of tuples, u not empty: where t is empty, u itself -/
def rCatU (K : PySem.W.Frag) : R2 := fun x y H Q => ∃ a b xs ys, x = .ref a ∧ y = .ref b ∧ SqT K H a xs ∧ H b = some (.tup ys) ∧ ys ≠ [] ∧ xs.length + ys.length ≤ sizeLine ∧ ∀ p H', (∀ c o, H c = some o → H' c = some o) → H' p = some (.tup (xs ++ ys)) → Q (.ref p) H'
theorem op_catU {X : Cx} (K : PySem.W.Frag) (hK : X.K = K := by rfl) : OpR X (binaryOp .Add) (rCatU K) := by
  subst hK
  intro pins s σ H x y v u Q I rx ry h
  obtain ⟨a, b, xs, ys, rfl, rfl, ha, hb, hy, hz, q⟩ := h
  by_cases hx : xs = []
  · subst hx
    cases rx
    cases ry
    obtain ⟨its, r1, p1, _⟩ := I.tuple ha
    obtain ⟨its2, r2, p2, _⟩ := I.tuple (.inl (.inl hb) : SqT X.K H b ys)
    cases r1
    obtain ⟨⟨cls, dd, data, sl⟩, ho, hc, n, hd⟩ := id p1
    obtain ⟨⟨cls2, dd2, data2, sl2⟩, ho2, hc2, n2, hd2⟩ := id p2
    simp only at hc hd hc2 hd2
    subst hc hd hc2 hd2
    exact concat_meets ⟨_, ho, rfl⟩ ⟨_, ho2, rfl⟩ noFill_tuple_add seq_tuple_add PySem.F.slot_tuple_add PySem.F.entry_tuple_add (PySem.F.args_tuple_add_2 _ _) (tuple_addW0 a b #[] its2.toArray n n2 dd dd2 sl sl2 (by simp)) ⟨ho, ho2, ⟨.ref b, H, I, rfl, q b H (fun _ _ e => e) hb⟩⟩
  · exact op_catT pins s σ H _ _ v u Q I rx ry ⟨a, b, xs, ys, rfl, rfl, ha, .inl (.inl hb), hx, hz, fun z => absurd z hy, fun _ p np => q p _ (same_upd np) upd_same⟩
end Pu

set_option Elab.async false
set_option linter.all false
set_option maxRecDepth 100000
set_option maxHeartbeats 4000000
/-! comprehensions that choose among strings -/
namespace Pu
open PySem PySem.Spec PyProof.Rows L2
section
variable {D : Addr} {H1 : Hp} {te : TE} {tt : TT} {i : Nat} {vs : List Nat} {σ : L2.St} {Qd : Hp → Prop}
theorem lc_flt {J : It} {G : Hp → Prop} {es : List Str} (p : Str → Bool) (w : Walk J (es.map V.str).length G (YAt (es.map V.str))) (hD : H1 D = none) (hG : ∀ H', Same H1 H' → G H')
    (hw : ∀ x, wipe ((wipe σ vs).set i (some x)) vs = wipe σ vs)
    (ht : ∀ e ∈ es, ∀ H', Same H1 H' → ∀ N : Bool → Hp → Prop, (∀ H'', Same H' H'' → N (p e) H'') → tt ((wipe σ vs).set i (some (.str e))) H' N)
    (he : ∀ e H' (N : VK), N (.str e) H' → te ((wipe σ vs).set i (some (.str e))) H' N)
    (fin : ∀ H', Same H1 H' → H' D = some (.lst ((es.filter p).map V.str)) → Qd H') (hz : es.length ≤ 10000 := by omega) :
    ∃ W : Nat → Nat → Hp → Prop, (∃ m, W 0 m (upd H1 D (.lst []))) ∧ ∀ i' m H, W i' m H →
      (J.stop i' H ∧ Qd H) ∨ (J.go i' H ∧ ∃ Nx : Hp → Prop, (∀ H', Nx H' → ∃ m', m' < m ∧ W (i' + 1) m' H') ∧ ∀ x H', J.yld i' H x H' → gName i x (wipe σ vs) H' fun σ2 H2 => wipe σ2 vs = wipe σ vs ∧ tt σ2 H2 fun b H3 =>
        if b = true then te σ2 H3 fun y H4 => ∃ acc, H4 D = some (.lst acc) ∧ acc.length < sizeLine ∧ Nx (upd H4 D (.lst (acc ++ [y]))) else Nx H3) := by
  refine lc_it w (fun j H' => Same H1 H' ∧ H' D = some (.lst (((es.take j).filter p).map V.str))) ⟨same_upd hD, upd_same⟩ (fun j H' _ pv => hG H' pv.1) (fun j x H' H'' hj pv yv => ?_) (fun H' pv => ?_)
  · obtain ⟨rfl, hx⟩ := yv
    rw [List.length_map] at hj
    rw [List.getElem?_map, List.getElem?_eq_getElem hj] at hx
    cases hx
    refine ⟨hw _, ht _ (List.getElem_mem hj) _ pv.1 _ fun H3 s3 => ?_⟩
    have hd3 := s3 _ _ pv.2
    have s13 := Same.trans pv.1 s3
    cases hb : p es[j] with
    | true =>
      rw [if_pos rfl]
      refine he _ _ _ ⟨_, hd3, ?_, fun b o hb2 => ?_, ?_⟩
      · rw [List.length_map]
        refine Nat.lt_of_le_of_lt (List.length_filter_le _ _) ?_
        rw [List.length_take]
        exact Nat.lt_of_le_of_lt (Nat.min_le_right _ _) (Nat.lt_of_lt_of_le (by omega) (sz 10001))
      · rw [upd_ne (ne_of_none hb2 hD)]
        exact s13 _ _ hb2
      · rw [upd_same, List.take_add_one, List.getElem?_eq_getElem hj, List.filter_append, List.map_append]
        show some (HO.lst (_ ++ [V.str es[j]])) = some (.lst (_ ++ (List.filter _ [es[j]]).map V.str))
        rw [List.filter_cons, if_pos hb]
        rfl
    | false =>
      rw [if_neg (by decide)]
      refine ⟨s13, ?_⟩
      rw [List.take_add_one, List.getElem?_eq_getElem hj, List.filter_append]
      show H3 D = some (.lst ((_ ++ List.filter _ [es[j]]).map V.str))
      rw [List.filter_cons, if_neg (by rw [hb]; decide), List.filter_nil, List.append_nil]
      exact hd3
  · rw [List.length_map, List.take_length] at pv
    exact fin H' pv.1 pv.2
end
end Pu

set_option Elab.async false
set_option linter.all false
set_option maxRecDepth 100000
set_option maxHeartbeats 4000000
namespace Pk
open PySem PySem.Spec PyProof.Rows L2 Pu
abbrev s_profile : Stmt := topS 40
theorem sc_profile : FnScope ["sums", "event", "onward", "back", "place"] ["sums", "event"] (defScope s_profile) := ⟨rfl, rfl, rfl, by decide +kernel, rfl, by decide +kernel, by decide +kernel⟩
abbrev s_is_like : Stmt := topS 41
theorem sc_is_like : FnScope ["sums", "others", "event", "renamed", "pairs", "name", "new"] ["sums", "others", "event", "renamed", "pairs"] (defScope s_is_like) := ⟨rfl, rfl, rfl, by decide +kernel, rfl, by decide +kernel, by decide +kernel⟩

section
variable {P : Program} {w : World} {K : PySem.W.Frag} {mg : Str → Option Value} {base : Heap}
/-! ### what stays the same of the leads of an event -/
/-- the leads of f over all places, those of all places over f -/
def onw (ps : List Str) (S : Str → Str → Option Int) (f : Str) : List Int := ps.filterMap (S f)
def bck (ps : List Str) (S : Str → Str → Option Int) (f : Str) : List Int := ps.filterMap fun g => S g f
structure PrD where
  top : Int
  on : List Int
  ba : List Int
def prfD (ps : List Str) (S : Str → Str → Option Int) (f : Str) : PrD := ⟨(S "" f).getD (-1), sI (onw ps S f), sI (bck ps S f)⟩
def encP (p : PrD) : PyData := .tuple [.int p.top, .tuple (p.on.map .int), .tuple (p.ba.map .int)]
theorem ints_all {H : Hp} : ∀ {xs : List Int}, DpAll K H (xs.map V.int) (xs.map PyData.int)
  | [] => .nil
  | x :: r => .cons (.int x) (ints_all (xs := r))
/-- the values of a row, in any order of its keys -/
theorem row_perm {ps : List Str} (nd : ps.Nodup) {r : SR} (n : (r.map (·.1)).Nodup) (hin : ∀ j ∈ r.map (·.1), j ∈ ps) {S : Str → Option Int} (h : ∀ l, getR r l = S l) : (r.map (·.2)).Perm (ps.filterMap S) := by
  have e1 : r.map (·.2) = (r.map (·.1)).filterMap S := by
    have : ∀ c ∈ r, S c.1 = some c.2 := fun c hc => by rw [← h]; exact getR_nd n hc
    clear h hin n
    induction r with
    | nil => rfl
    | cons c r ih =>
      rw [List.map_cons, List.map_cons, List.filterMap_cons, this c (List.mem_cons_self ..), ih fun c hc => this c (List.mem_cons_of_mem _ hc)]
  have e2 : ps.filterMap S = (ps.filter fun l => (S l).isSome).filterMap S := by
    clear h hin nd
    induction ps with
    | nil => rfl
    | cons x t ih =>
      rw [List.filterMap_cons, List.filter_cons]
      cases hx : S x with
      | none => exact ih
      | some v =>
        show v :: t.filterMap S = (x :: t.filter _).filterMap S
        rw [List.filterMap_cons, hx, ih]
  rw [e1, e2]
  refine List.Perm.filterMap _ ((List.perm_ext_iff_of_nodup n (nd.filter _)).mpr fun l => ?_)
  rw [List.mem_filter]
  constructor
  · intro hl
    exact ⟨hin l hl, by rw [← h]; exact keys_iff.mp hl⟩
  · rintro ⟨_, h2⟩
    rw [← h] at h2
    exact keys_iff.mpr h2
def spProf (K : PySem.W.Frag) : Sp := fun vs H Q _ => ∃ (q : Addr) (ps : List Str) (S : Str → Str → Option Int) (f : Str), vs = [.ref q, .str f] ∧ SmAt H q ps S ∧ ps.Nodup ∧ ps.length ≤ 9 ∧ ("" : Str) ∈ ps ∧ f ∈ ps ∧ ∀ v H', Same H H' → Dp K H' v (encP (prfD ps S f)) → Q v H'
theorem ok_prof {f : Addr} {fd : FuncData} (F : Fun K "profile" "profile" s_profile f fd) (T : Txt mg) : FnOk P w K mg base CX0 1 f fd ["sums", "event"] (spProf K) := by
  have nd := sc_profile.nd
  refine F.ok sc_profile (fun vs H Q E h => ?_) (fun cdv A outer s H vs Q E hr h => ?_)
  · obtain ⟨_, _, _, _, rfl, _⟩ := h
    rfl
  · obtain ⟨q, ps, S, e, rfl, hS, hnd, h9, h0, he, qq⟩ := h
    have hu := hu_of hr
    refine ⟨_, (pss_cons (ps_set (i := 2) nd rfl (Or.inl rfl) (pe_callB (srtI K) (by rfl) T.m_sorted PyProof.Rows.boot_sorted (pa_cons (pe_listVals rfl (pe_dget hu (pv 0) (pv 1) (fun _ _ => rfl)) (by rfl) T.m_list) pa_nil)))
      (pss_cons (ps_set (i := 3) nd rfl (Or.inl rfl) (pe_callB (srtI K) (by rfl) T.m_sorted PyProof.Rows.boot_sorted (pa_cons (pe_lock (pe_lc (own := [("place", 4)]) (g := gName 4) rfl nd (pi_keys (pv 0)) (blkOk_by (N := ["sums", "event", "onward", "back", "place"]) (sc := defScope s_profile) (by decide +kernel)) (fun _ _ _ _ _ => pg_name (i := 4) nd rfl (Or.inl rfl)) (fun _ _ _ _ _ => pts_one (pt_cmp (pc_din hu (pv 1) (pe_dget hu (pv 0) (pv 4) (fun _ _ => rfl))) (by rfl))) (fun _ _ _ _ _ => (pe_dget hu (pe_dget hu (pv 0) (pv 4) (fun _ _ => rfl)) (pv 1) (fun _ _ => rfl))))) pa_nil)))
      (pss_one (ps_ret (pe_tup (pa_cons (pe_dget2 hu (pe_dget hu (pv 0) (pe_gs rfl T.m_NOTHING) (fun _ _ => rfl)) (pv 1) (pe_un un_neg pe_int) (by constructor <;> intros <;> rfl)) (pa_cons (pe_callTy (tupNew K) (by rfl) T.m_tuple PyProof.Rows.boot_tuple (pa_cons (pv 2) pa_nil)) (pa_cons (pe_callTy (tupNew K) (by rfl) T.m_tuple PyProof.Rows.boot_tuple (pa_cons (pv 3) pa_nil)) pa_nil)))))))), ?_⟩
    obtain ⟨sa, Z, g1, g2, g3⟩ := id hS.ex
    obtain ⟨a, r, r1, r2, r3, r4, r5, r6⟩ := hS.row he
    refine seq_asg ?_
    refine ⟨_, rfl, _, rfl, q, _, rfl, r1, ?_⟩
    refine ⟨a, _, rfl, r2, fun lv nlv => ⟨lv, r.map (fun c : Str × Int => c.2), rfl, .inl (.inl ?_), fun ys p1 hys hso np1 => ?_⟩⟩
    · rw [upd_same]
      exact congrArg (fun z => some (HO.lst z)) (vals_kvR V.int r)
    have hon : ys = sI (onw ps S e) := sI_uniq (hys.trans (row_perm hnd r3 r4 r5)) hso
    subst hon
    have s1 := Same.trans (same_upd nlv (o := .lst ((kvR V.int r).map fun x => x.2))) (same_upd np1 (o := .lst ((sI (onw ps S e)).map V.int)))
    have k1 : (upd (upd H lv (.lst ((kvR V.int r).map fun x => x.2))) p1 (.lst ((sI (onw ps S e)).map V.int))) p1 = some (.lst ((sI (onw ps S e)).map V.int)) := upd_same
    revert s1 k1
    generalize upd (upd H lv (.lst ((kvR V.int r).map fun x => x.2))) p1 (.lst ((sI (onw ps S e)).map V.int)) = H1
    intro s1 k1
    clear nlv np1 hys hso
    have gq := s1 _ _ g1
    have hne : ∀ g ∈ ps, sa g ≠ q := fun g hg z => by
      have h := g2 g hg
      rw [z, g1] at h
      have h : outV ps sa = kvR V.int (Z g) := by injection h with h; injection h
      cases ps with
      | nil => cases hg
      | cons x t =>
        cases hz : Z g with
        | nil => rw [hz] at h; cases h
        | cons c u =>
          rw [hz] at h
          have h : ((Sum.inr x : Key), V.ref (sa x)) :: outV t sa = (.inr c.1, V.int c.2) :: kvR V.int u := h
          have := (Prod.mk.inj (List.cons.inj h).1).2
          cases this
    refine gname (seq_asg ?_)
    refine ⟨q, _, gq, True.intro, fun od => ?_⟩
    have hL : (upd H1 q (.frz od (.dK (outV ps sa)))) q = some (.frz od (.dK (outV ps sa))) := upd_same
    have unl : ∀ {H'}, Same (upd H1 q (.frz od (.dK (outV ps sa)))) H' → Same H1 (upd H' q (.dK (outV ps sa))) := fun s => unlock_same gq s
    have fr : ∀ {b}, (upd H1 q (.frz od (.dK (outV ps sa)))) b = none → H1 b = none ∧ b ≠ q := fun {b} hb => by
      have : b ≠ q := fun z => by rw [z, hL] at hb; cases hb
      rw [upd_ne this] at hb
      exact ⟨hb, this⟩
    have rows : ∀ g ∈ ps, (upd H1 q (.frz od (.dK (outV ps sa)))) (sa g) = some (.dK (kvR V.int (Z g))) := fun g hg => by
      rw [upd_ne (hne g hg)]
      exact s1 _ _ (g2 g hg)
    revert hL unl fr rows
    generalize upd H1 q (.frz od (.dK (outV ps sa))) = H2
    intro hL unl fr rows
    refine ⟨_, rfl, q, od, rfl, .inl ⟨_, hL, fun D nD => ?_⟩⟩
    have hlen : (outV ps sa).length = ps.length := List.length_map ..
    refine lc_it (walk_keys (d := q) (o := od) (kvs := outV ps sa)) (fun i H' => Same H2 H' ∧ H' D = some (.lst (((ps.take i).filterMap fun g => S g e).map V.int))) ⟨same_upd nD, upd_same⟩ (fun i H' _ pv => pv.1 _ _ hL) (fun i x H3' H3 hi pv yv => ?_) (fun H3 pv => ?_)
    · obtain ⟨rfl, k, v, hk, rfl⟩ := yv
      obtain ⟨s3, hD3⟩ := pv
      rw [hlen] at hi
      have hpi : ps[i]? = some ps[i] := List.getElem?_eq_getElem hi
      have hk2 : (outV ps sa)[i]? = some (.inr ps[i], .ref (sa ps[i])) := by
        unfold outV
        rw [List.getElem?_map, hpi]
        rfl
      rw [hk2] at hk
      cases hk
      have hgm := List.getElem_mem hi
      have d1 : DGet H3 q (.str ps[i]) (some (.ref (sa ps[i]))) := .inl ⟨outV ps sa, .inr ps[i], .inr ⟨od, s3 _ _ hL⟩, rfl, (outV_get hgm).symm⟩
      have d2 : DGet H3 (sa ps[i]) (.str e) ((S ps[i] e).map V.int) := .inl ⟨kvR V.int _, .inr e, .inl (s3 _ _ (rows _ hgm)), rfl, by rw [valV_kvR, (g3 _ hgm).2.2 e]⟩
      have stp : (ps.take (i + 1)).filterMap (fun g => S g e) = (ps.take i).filterMap (fun g => S g e) ++ [ps[i]].filterMap fun g => S g e := by
        rw [List.take_add_one, hpi, List.filterMap_append]
        rfl
      refine ⟨rfl, _, rfl, _, rfl, _, rfl, q, _, rfl, d1, sa ps[i], _, rfl, d2, _, rfl, ?_⟩
      cases hz : S ps[i] e with
      | none =>
        refine iteF ⟨s3, ?_⟩
        rw [stp, List.filterMap_cons, hz]
        show H3 D = some (.lst ((_ ++ []).map V.int))
        rw [List.append_nil]
        exact hD3
      | some u =>
        rw [hz] at d2
        refine iteT ⟨_, rfl, _, rfl, q, _, rfl, d1, _, rfl, sa ps[i], _, rfl, d2, _, hD3, ?_, same_put nD s3, ?_⟩
        · rw [List.length_map]
          refine Nat.lt_of_le_of_lt (List.length_filterMap_le ..) ?_
          rw [List.length_take]
          exact Nat.lt_of_le_of_lt (Nat.min_le_right _ _) (Nat.lt_of_le_of_lt h9 (Nat.lt_of_lt_of_le (by decide) (sz 10)))
        · rw [upd_same, stp, List.filterMap_cons, hz, List.map_append]
          rfl
    · obtain ⟨s3, hD3⟩ := pv
      rw [hlen, List.take_length] at hD3
      refine ⟨s3 _ _ hL, D, bck ps S e, rfl, .inl (.inl ?_), fun ys p2 hys hso np2 => ?_⟩
      · rw [upd_ne (fr nD).2]
        exact hD3
      have hba : ys = sI (bck ps S e) := sI_uniq hys hso
      subst hba
      have su := unl s3
      have s4 := Same.trans su (same_upd np2 (o := .lst ((sI (bck ps S e)).map V.int)))
      have k2 : (upd (upd H3 q (.dK (outV ps sa))) p2 (.lst ((sI (bck ps S e)).map V.int))) p2 = some (.lst ((sI (bck ps S e)).map V.int)) := upd_same
      revert s4 k2
      generalize upd (upd H3 q (.dK (outV ps sa))) p2 (.lst ((sI (bck ps S e)).map V.int)) = H4
      intro s4 k2
      refine gname ?_
      obtain ⟨a0, r0, z1, z2, z3, z4, z5, z6⟩ := (hS.same (Same.trans s1 s4)).row h0
      refine ⟨_, rfl, q, _, rfl, z1, a0, rfl, .inl ⟨_, .inl z2⟩, _, rfl, 1, rfl, _, z6 e, ?_⟩
      rw [show ((S "" e).map V.int).getD (.int (-1)) = .int ((S "" e).getD (-1)) from by cases S "" e <;> rfl]
      refine ⟨_, rfl, p1, _, rfl, .inl (.inl (.inl (s4 _ _ k1))), fun t1 H5 s5 ht1 => ⟨_, rfl, p2, _, rfl, .inl (.inl (.inl (s5 _ _ k2))), fun t2 H6 s6 ht2 => ⟨sz 3, fun t nt => ?_⟩⟩⟩
      have s7 := same_upd nt (o := .tup [.int ((S "" e).getD (-1)), .ref t1, .ref t2])
      refine qq _ _ (Same.trans (Same.trans s1 s4) (Same.trans s5 (Same.trans s6 s7))) ?_
      exact .tup (.inl (.inl upd_same)) (.cons (.int _) (.cons (.tup (sqt_same ht1 (Same.trans s6 s7)) ints_all) (.cons (.tup (sqt_same ht2 s7) ints_all) .nil)))
/-! ### whether an event leads as another one -/
/-- pairs of places, as tuples -/
def PairSS (H : Hp) (ts : List Addr) (L : List (Str × Str)) : Prop := Paired (fun t c => H t = some (.tup [.str c.1, .str c.2])) ts L
theorem PairSS.keep {H H' : Hp} {ts : List Addr} {L : List (Str × Str)} (h : PairSS H ts L) (k : ∀ a xs, H a = some (.tup xs) → H' a = some (.tup xs)) : PairSS H' ts L := by
  unfold PairSS at *
  induction h with
  | nil => exact .nil
  | cons r _ ih => exact .cons (k _ _ r) ih
theorem PairSS.same {H H' : Hp} {ts : List Addr} {L : List (Str × Str)} (h : PairSS H ts L) (s : Same H H') : PairSS H' ts L := h.keep fun _ _ q => s _ _ q
theorem PairSS.get {H : Hp} {ts : List Addr} {L : List (Str × Str)} (h : PairSS H ts L) : ∀ {i : Nat} {x : V}, (ts.map V.ref)[i]? = some x → ∃ t c, x = .ref t ∧ L[i]? = some c ∧ H t = some (.tup [.str c.1, .str c.2]) := by
  unfold PairSS at h
  induction h with
  | nil => intro i x e; simp at e
  | @cons a t as bs r _ ih =>
    intro i x e
    cases i with
    | zero =>
      have e : some (V.ref a) = some x := e
      cases e
      exact ⟨a, t, rfl, rfl, r⟩
    | succ i => exact ih (i := i) (x := x) e
/-- the event e leads those that have new names as f leads these -/
def likeB (S S' : Str → Str → Option Int) (e f : Str) (L : List (Str × Str)) : Bool := L.all fun c => decide (S e c.1 = S' f c.2) && decide (S c.1 e = S' c.2 f)
def spLike : Sp := fun vs H Q _ => ∃ (q q' l : Addr) (ps ps' : List Str) (S S' : Str → Str → Option Int) (e f : Str) (ts : List Addr) (L : List (Str × Str)), vs = [.ref q, .ref q', .str e, .str f, .ref l] ∧ SmAt H q ps S ∧ SmAt H q' ps' S' ∧ e ∈ ps ∧ f ∈ ps' ∧ H l = some (.lst (ts.map V.ref)) ∧ PairSS H ts L ∧ (∀ c ∈ L, c.1 ∈ ps ∧ c.2 ∈ ps') ∧ Q (.bl (likeB S S' e f L)) H
theorem optV_ne {a b : Option Int} : (!decide ((a.map V.int).getD V.non = (b.map V.int).getD V.non)) = !decide (a = b) := by
  congr 1
  cases a <;> cases b <;> first | rfl | exact decide_eq_decide.mpr ⟨fun z => by cases z, fun z => by cases z⟩ | exact decide_eq_decide.mpr ⟨fun z => by cases z; rfl, fun z => by cases z; rfl⟩
theorem optV_scal {a b : Option Int} : scal ((a.map V.int).getD V.non) ((b.map V.int).getD V.non) = true := by
  cases a <;> cases b <;> rfl
theorem ok_like {f : Addr} {fd : FuncData} (F : Fun K "is_like" "is_like" s_is_like f fd) (T : Txt mg) : FnOk P w K mg base CX0 1 f fd ["sums", "others", "event", "renamed", "pairs"] spLike := by
  have nd := sc_is_like.nd
  refine F.ok sc_is_like (fun vs H Q E h => ?_) (fun cdv A outer s H vs Q E hr h => ?_)
  · obtain ⟨_, _, _, _, _, _, _, _, _, _, _, rfl, _⟩ := h
    rfl
  · obtain ⟨q, q', l, ps, ps', S, S', e, f, ts, L, rfl, hS, hS', he, hf, hl, hT, hin, qq⟩ := h
    have hu := hu_of hr
    refine ⟨_, (pss_cons (ps_for PassesOwn.never rfl (pi_list (pv 4)) (pg_tup rfl (pgs_cons (pg_name (i := 5) nd rfl (Or.inl rfl)) (pgs_cons (pg_name (i := 6) nd rfl (Or.inl rfl)) pgs_nil)))
      (pss_one (ps_if (PW.pt (pw_or (pt_cmpR op_ne (pe_dget1 hu (pe_dget hu (pv 0) (pv 2) (fun _ _ => rfl)) (pv 5) (by constructor <;> intros <;> rfl)) (pe_dget1 hu (pe_dget hu (pv 1) (pv 3) (fun _ _ => rfl)) (pv 6) (by constructor <;> intros <;> rfl)) (by rfl)) (pw_or1 (pt_cmpR op_ne (pe_dget1 hu (pe_dget hu (pv 0) (pv 5) (fun _ _ => rfl)) (pv 2) (by constructor <;> intros <;> rfl)) (pe_dget1 hu (pe_dget hu (pv 1) (pv 6) (fun _ _ => rfl)) (pv 3) (by constructor <;> intros <;> rfl)) (by rfl)))))
      (pss_one (ps_ret pe_bl)) pss_nil)))
      (pss_one (ps_ret pe_bl))), ?_⟩
    refine seq_st ?_
    refine ⟨_, rfl, l, rfl, ⟨_, .inl (.inl hl)⟩, ?_⟩
    refine for_it (walk_list (K := K) (a := l) (xs := ts.map V.ref)) (fun i σ H' => H' = H ∧ likeB S S' e f (L.take i) = true ∧ ∃ v5 v6, σ = [some (.ref q), some (.ref q'), some (.str e), some (.str f), some (.ref l), v5, v6]) ⟨rfl, rfl, _, _, rfl⟩ (fun i σ H' _ pv => .inl (.inl (by rw [pv.1]; exact hl))) (fun i x σ H1' H1 hi pv yv => ?_) (fun σ H1 pv => ?_)
    · obtain ⟨rfl, hx⟩ := yv
      obtain ⟨rfl, hb, v5, v6, rfl⟩ := pv
      obtain ⟨t, c, rfl, hc, ht⟩ := hT.get hx
      obtain ⟨c1, c2⟩ := hin c (List.mem_of_getElem? hc)
      have htk : L.take (i + 1) = L.take i ++ [c] := by
        rw [List.take_add_one, hc]
        rfl
      have hall : likeB S S' e f L = true → (S e c.1 = S' f c.2 ∧ S c.1 e = S' c.2 f) := fun z => by
        unfold likeB at z
        have := List.all_eq_true.mp z c (List.mem_of_getElem? hc)
        rw [Bool.and_eq_true] at this
        exact ⟨of_decide_eq_true this.1, of_decide_eq_true this.2⟩
      have bad : ¬ (S e c.1 = S' f c.2 ∧ S c.1 e = S' c.2 f) → Q (.bl false) H1 := fun z => by
        have : likeB S S' e f L = false := Bool.eq_false_iff.mpr fun y => z (hall y)
        rw [this] at qq
        exact qq
      obtain ⟨a1, r1, p1, p2, _, _, _, p6⟩ := hS.row he
      obtain ⟨a2, r2, o1, o2, _, _, _, o6⟩ := hS'.row hf
      obtain ⟨a3, r3, u1, u2, _, _, _, u6⟩ := hS.row c1
      obtain ⟨a4, r4, w1, w2, _, _, _, w6⟩ := hS'.row c2
      refine ⟨t, _, rfl, .inl (.inl ht), rfl, _, _, rfl, _, _, rfl, rfl, ?_⟩
      refine ⟨_, rfl, _, rfl, q, _, rfl, p1, a1, rfl, .inl ⟨_, .inl p2⟩, _, rfl, _, p6 c.1, ?_⟩
      refine ⟨_, rfl, _, rfl, q', _, rfl, o1, a2, rfl, .inl ⟨_, .inl o2⟩, _, rfl, _, o6 c.2, optV_scal, _, rfl, ?_⟩
      rw [optV_ne]
      refine ite2 (fun h => ?_) (fun h => ?_)
      · exact bad fun z => by rw [decide_eq_true z.1] at h; cases h
      have h1 : S e c.1 = S' f c.2 := by
        cases hd : decide (S e c.1 = S' f c.2) with
        | true => exact of_decide_eq_true hd
        | false => rw [hd] at h; exact absurd rfl h
      refine ⟨_, rfl, _, rfl, q, _, rfl, u1, a3, rfl, .inl ⟨_, .inl u2⟩, _, rfl, _, u6 e, ?_⟩
      refine ⟨_, rfl, _, rfl, q', _, rfl, w1, a4, rfl, .inl ⟨_, .inl w2⟩, _, rfl, _, w6 f, optV_scal, _, rfl, ?_⟩
      rw [optV_ne]
      refine ite2 (fun h => ?_) (fun h => ?_)
      · exact bad fun z => by rw [decide_eq_true z.2] at h; cases h
      have h2 : S c.1 e = S' c.2 f := by
        cases hd : decide (S c.1 e = S' c.2 f) with
        | true => exact of_decide_eq_true hd
        | false => rw [hd] at h; exact absurd rfl h
      refine ⟨rfl, ?_, _, _, rfl⟩
      rw [htk]
      unfold likeB at hb ⊢
      rw [List.all_append, hb, List.all_cons, decide_eq_true h1, decide_eq_true h2]
      rfl
    · obtain ⟨rfl, hb, v5, v6, rfl⟩ := pv
      have hlen : (ts.map V.ref).length = L.length := by rw [List.length_map, Paired.length hT]
      rw [hlen, List.take_length] at hb
      rw [hb] at qq
      exact qq

end
end Pk

set_option Elab.async false
set_option linter.all false
set_option maxRecDepth 100000
set_option maxHeartbeats 4000000
namespace Pk
open PySem PySem.Spec PyProof.Rows L2 Pu
abbrev s_renamed_on : Stmt := topS 42
theorem sc_renamed_on : FnScope ["sums", "others", "matches", "pairs", "events", "event", "taken", "renamed", "found", "name", "new"] ["sums", "others", "matches", "pairs"] (defScope s_renamed_on) := ⟨rfl, rfl, rfl, by decide +kernel, rfl, by decide +kernel, by decide +kernel⟩

section
variable {P : Program} {w : World} {K : PySem.W.Frag} {mg : Str → Option Value} {base : Heap}
/-! ### new names for the events, one after another -/
section
variable (S S' : Str → Str → Option Int) (es : List Str) (M : Str → List Str)
/-- what is told behind the pairs L, with so many events more at most -/
def renF : Nat → List (Str × Str) → Option (List (Str × Str))
  | 0, L => if L.length > es.length then some L else none
  | n + 1, L => if L.length > es.length then some L else
    (M (es.getD (L.length - 1) "")).findSome? fun r => if !decide (r ∈ L.map (·.2)) && likeB S S' (es.getD (L.length - 1) "") r L then renF n (L ++ [(es.getD (L.length - 1) "", r)]) else none
end
/-- a dict of lists of names -/
structure MatAt (H : Hp) (mt : Addr) (es : List Str) (M : Str → List Str) : Prop where
  ex : ∃ ma : Str → Addr, H mt = some (.dK (outV es ma)) ∧ ∀ e ∈ es, H (ma e) = some (.lst ((M e).map V.str))
theorem MatAt.same {H H' : Hp} {mt : Addr} {es : List Str} {M : Str → List Str} (h : MatAt H mt es M) (s : Same H H') : MatAt H' mt es M := by
  obtain ⟨ma, h1, h2⟩ := h.ex
  exact ⟨ma, s _ _ h1, fun e he => s _ _ (h2 e he)⟩
theorem outV_keys (ps : List Str) (sa : Str → Addr) : ((outV ps sa).map fun kv => kV kv.1) = ps.map V.str := by
  unfold outV
  rw [List.map_map]
  rfl
theorem paired_app2 {α β : Type} {R : α → β → Prop} {xs xs' : List α} {ys ys' : List β} (h : Paired R xs ys) (h2 : Paired R xs' ys') : Paired R (xs ++ xs') (ys ++ ys') := by
  induction h with
  | nil => exact h2
  | cons r _ ih => exact .cons r ih
def RenV (H : Hp) (v : V) (o : Option (List (Str × Str))) : Prop := (o = none ∧ v = .non) ∨ ∃ (l : Addr) (ts : List Addr) (L : List (Str × Str)), o = some L ∧ v = .ref l ∧ H l = some (.lst (ts.map V.ref)) ∧ PairSS H ts L
def spRen : Nat → Sp
  | 0 => fun _ _ _ _ => False
  | n + 1 => fun vs H Q _ => ∃ (q q' mt l : Addr) (ps ps' : List Str) (S S' : Str → Str → Option Int) (es : List Str) (M : Str → List Str) (ts : List Addr) (L : List (Str × Str)), vs = [.ref q, .ref q', .ref mt, .ref l] ∧ SmAt H q ps S ∧ SmAt H q' ps' S' ∧ MatAt H mt es M ∧ es.Nodup ∧ es.length ≤ 8 ∧ (∀ e ∈ es, e ∈ ps ∧ (M e).length ≤ 8 ∧ ∀ r ∈ M e, r ∈ ps') ∧
    H l = some (.lst (ts.map V.ref)) ∧ PairSS H ts L ∧ (∀ c ∈ L, c.1 ∈ ps ∧ c.2 ∈ ps') ∧ 1 ≤ L.length ∧ L.length ≤ es.length + 1 ∧ es.length + 1 ≤ L.length + n ∧ ∀ v H', Same H H' → RenV H' v (renF S S' es M n L) → Q v H'
theorem ok_ren_step {f : Addr} {fd : FuncData} (n : Nat) (F : Fun K "renamed_on" "renamed_on" s_renamed_on f fd) (T : Txt mg) (cis_like : Cal P w K mg base 1 "is_like" spLike []) (crenamed_on : Cal P w K mg base (n + 2) "renamed_on" (spRen n) []) : FnOk P w K mg base CX0 (n + 3) f fd ["sums", "others", "matches", "pairs"] (spRen (n + 1)) := by
  have nd := sc_renamed_on.nd
  refine F.ok sc_renamed_on (fun vs H Q E h => ?_) (fun cdv A outer s H vs Q E hr h => ?_)
  · obtain ⟨_, _, _, _, _, _, _, _, _, _, _, _, rfl, _⟩ := h
    rfl
  · obtain ⟨q, q', mt, l, ps, ps', S, S', es, M, ts, L, rfl, hS, hS', hM, hnd, h8, hes, hl, hT, hin, l1, l2, l3, qq⟩ := h
    have hu := hu_of hr
    refine ⟨_, (pss_cons (ps_set (i := 4) nd rfl (Or.inl rfl) (pe_callTy (call_list_dK rfl) (by rfl) T.m_list PyProof.Rows.boot_list (pa_cons (pv 2) pa_nil)))
      (pss_cons (ps_if (pt_cmpR op_gt (pe_callB (lenK K) (by rfl) T.m_len PySem.boot_len (pa_cons (pv 3) pa_nil)) (pe_callB (lenK K) (by rfl) T.m_len PySem.boot_len (pa_cons (pv 4) pa_nil)) (by rfl))
      (pss_one (ps_ret (pv 3))) pss_nil)
      (pss_cons (ps_set (i := 5) nd rfl (Or.inl rfl) (pe_ix (ixL K) (pv 4) (pe_op op_sub (pe_callB (lenK K) (by rfl) T.m_len PySem.boot_len (pa_cons (pv 3) pa_nil)) pe_int) (fun _ _ => rfl)))
      (pss_cons (ps_setLc (i := 6) (y := "taken") (own := [("name", 9), ("new", 10)]) (g := (gTup K 2 (gCons (gName 9) (gCons (gName 10) gNil)))) (tt := tYes) rfl nd rfl rfl (sw_true rfl rfl rfl (by decide +kernel)) (pi_list (pv 3)) (blkOk_by (N := ["sums", "others", "matches", "pairs", "events", "event", "taken", "renamed", "found", "name", "new"]) (sc := defScope s_renamed_on) (by decide +kernel)) (fun _ _ _ _ _ => (pg_tup rfl (pgs_cons (pg_name (i := 9) nd rfl (Or.inl rfl)) (pgs_cons (pg_name (i := 10) nd rfl (Or.inl rfl)) pgs_nil)))) (fun _ _ _ _ _ => pts_nil) (fun _ _ _ _ _ => (pv 10)))
      (pss_cons (ps_for PassesOwn.never rfl (pi_list (pe_dget hu (pv 2) (pv 5) (fun _ _ => rfl))) (pg_name (i := 7) nd rfl (Or.inl rfl))
      (pss_one (ps_if (PW.pt (pw_and (pt_cmpR (oNotIn K) (pv 7) (pv 6) (by rfl)) (pw_and1 (pt_val (pe_c cis_like hr (by omega) rfl (pa_cons (pv 0) (pa_cons (pv 1) (pa_cons (pv 5) (pa_cons (pv 7) (pa_cons (pv 3) pa_nil))))))))))
      (pss_cons (ps_set (i := 8) nd rfl (Or.inl rfl) (pe_c crenamed_on hr (by omega) rfl (pa_cons (pv 0) (pa_cons (pv 1) (pa_cons (pv 2) (pa_cons (pe_lst (StX.pa_star (pv 3) (pa_cons (pe_tup (pa_cons (pv 5) (pa_cons (pv 7) pa_nil))) pa_nil))) pa_nil))))))
      (pss_one (ps_if (pt_cmpR op_notN (pv 8) pe_non (by rfl))
      (pss_one (ps_ret (pv 8))) pss_nil))) pss_nil)))
      (pss_one (ps_ret pe_non))))))), ?_⟩
    obtain ⟨ma, g1, g2⟩ := id hM.ex
    have htl : (ts.map V.ref).length = L.length := by rw [List.length_map, Paired.length hT]
    refine seq_asg ?_
    refine ⟨_, rfl, mt, _, rfl, g1, fun le nle => ?_⟩
    rw [outV_keys]
    have s1 := same_upd nle (o := .lst (es.map V.str))
    have kle : (upd H le (.lst (es.map V.str))) le = some (.lst (es.map V.str)) := upd_same
    revert s1 kle
    generalize upd H le (.lst (es.map V.str)) = H1
    intro s1 kle
    refine gname (seq_st ?_)
    refine ⟨_, rfl, .inl ⟨l, _, rfl, .inl (.inl (.inl (s1 _ _ hl))), _, rfl, .inl ⟨le, _, rfl, .inl (.inl (.inl kle)), _, _, rfl, rfl, _, rfl, ite2 (fun h => ?_) (fun h => ?_)⟩⟩⟩
    · have h := of_decide_eq_true h
      rw [htl, List.length_map] at h
      have hgt : L.length > es.length := by omega
      refine ⟨_, rfl, qq _ _ s1 (.inr ⟨l, ts, L, ?_, rfl, s1 _ _ hl, hT.same s1⟩)⟩
      cases n with
      | zero => exact if_pos hgt
      | succ n => exact if_pos hgt
    have hle : ¬ L.length > es.length := fun z => h (decide_eq_true (by rw [htl, List.length_map]; omega))
    cases n with
    | zero => exact absurd l3 (by omega)
    | succ n =>
      refine next_of ?_
      dsimp only
      have hk : L.length - 1 < es.length := by omega
      have hev : es[L.length - 1]? = some es[L.length - 1] := List.getElem?_eq_getElem hk
      have hgd : es.getD (L.length - 1) "" = es[L.length - 1] := by rw [List.getD_eq_getElem?_getD, hev]; rfl
      have hem := List.getElem_mem hk
      have hren : renF S S' es M (n + 1) L = (M es[L.length - 1]).findSome? fun r => if !decide (r ∈ L.map (·.2)) && likeB S S' es[L.length - 1] r L then renF S S' es M n (L ++ [(es[L.length - 1], r)]) else none := by
        show (if L.length > es.length then some L else _) = _
        rw [if_neg hle, hgd]
      rw [hren] at qq
      clear hren hgd h
      revert hev hem qq
      generalize es[L.length - 1] = e
      intro qq hev hem
      refine seq_asg ?_
      refine ⟨_, rfl, _, rfl, .inl ⟨l, _, rfl, .inl (.inl (.inl (s1 _ _ hl))), _, _, rfl, rfl, le, _, _, _, rfl, rfl, .inl (.inl kle), (?_ : atI (es.map V.str) _ = some (.str e)), ?_⟩⟩
      · rw [htl, show ((L.length : Nat) : Int) - 1 = ((L.length - 1 : Nat) : Int) from by omega, atI_nat]
        rw [List.getElem?_map, hev]
        rfl
      refine gname (seq_asg ?_)
      refine ⟨_, rfl, l, rfl, ⟨_, .inl (.inl (s1 _ _ hl))⟩, fun D nD => ?_⟩
      have hl1 := s1 _ _ hl
      have hT1 := hT.same s1
      refine lc_it (walk_list (K := K) (a := l) (xs := ts.map V.ref)) (fun i H' => Same H1 H' ∧ H' D = some (.lst (((L.take i).map (·.2)).map V.str))) ⟨same_upd nD, upd_same⟩ (fun i H' _ pv => .inl (.inl (pv.1 _ _ hl1))) (fun i x H3' H3 hi pv yv => ?_) (fun H3 pv => ?_)
      · obtain ⟨rfl, hx⟩ := yv
        obtain ⟨s3, hD3⟩ := pv
        obtain ⟨t, c, rfl, hc, ht⟩ := (hT1.same s3).get hx
        have htk : L.take (i + 1) = L.take i ++ [c] := by
          rw [List.take_add_one, hc]
          rfl
        refine ⟨t, _, rfl, .inl (.inl ht), rfl, _, _, rfl, _, _, rfl, rfl, rfl, _, rfl, _, hD3, ?_, same_put nD s3, ?_⟩
        · rw [List.length_map, List.length_map, List.length_take]
          exact Nat.lt_of_le_of_lt (Nat.min_le_right _ _) (Nat.lt_of_le_of_lt (Nat.le_trans l2 (Nat.succ_le_succ h8)) (Nat.lt_of_lt_of_le (by decide) (sz 10)))
        · rw [upd_same, htk, List.map_append, List.map_append]
          rfl
      · obtain ⟨s3, hD3⟩ := pv
        rw [htl, List.take_length] at hD3
        have s13 : Same H H3 := Same.trans s1 s3
        refine gname (seq_st ?_)
        have d1 : ∀ {H'}, Same H H' → DGet H' mt (.str e) (some (.ref (ma e))) := fun s => .inl ⟨outV es ma, .inr e, .inl (s _ _ g1), rfl, (outV_get hem).symm⟩
        have hme := g2 e hem
        refine ⟨_, rfl, _, rfl, mt, _, rfl, d1 s13, ma e, rfl, ⟨_, .inl (.inl (s13 _ _ hme))⟩, ?_⟩
        refine for_it (walk_list (K := K) (a := ma e) (xs := (M e).map V.str)) (fun i σ H' => Same H H' ∧ H' D = some (.lst ((L.map (·.2)).map V.str)) ∧ ((M e).take i).findSome? (fun r => if !decide (r ∈ L.map (·.2)) && likeB S S' e r L then renF S S' es M n (L ++ [(e, r)]) else none) = none ∧ ∃ v7 v8, σ = [some (.ref q), some (.ref q'), some (.ref mt), some (.ref l), some (.ref le), some (.str e), some (.ref D), v7, v8, none, none]) ⟨s13, hD3, rfl, _, _, rfl⟩ (fun i σ H' _ pv => .inl (.inl (pv.1 _ _ hme))) (fun i x σ H4' H4 hi pv yv => ?_) (fun σ H4 pv => ?_)
        · obtain ⟨rfl, hx⟩ := yv
          obtain ⟨s4, hD4, hno, v7, v8, rfl⟩ := pv
          rw [List.getElem?_map] at hx
          cases hr1 : (M e)[i]? with
          | none => rw [hr1] at hx; cases hx
          | some r =>
            rw [hr1] at hx
            cases hx
            have hrm := List.mem_of_getElem? hr1
            obtain ⟨he1, he2, he3⟩ := hes e hem
            have htk : (M e).take (i + 1) = (M e).take i ++ [r] := by
              rw [List.take_add_one, hr1]
              rfl
            have hl4 := s4 _ _ hl
            have hT4 := hT.same s4
            have hS4 := hS.same s4
            have hS4' := hS'.same s4
            have hM4 := hM.same s4
            refine gname ?_
            refine ⟨_, rfl, _, rfl, .inr ⟨D, _, rfl, .inl (.inl (.inl hD4)), rfl, flat_strs _, _, rfl, ?_⟩⟩
            rw [if_pos rfl, inV_strs]
            dsimp only
            have hgo : ∀ {H5 : Hp} {v7' v8' : Option V}, Same H4 H5 → (if !decide (r ∈ L.map (·.2)) && likeB S S' e r L then renF S S' es M n (L ++ [(e, r)]) else none) = none → (fun i σ H' => Same H H' ∧ H' D = some (.lst ((L.map (·.2)).map V.str)) ∧ ((M e).take i).findSome? (fun r => if !decide (r ∈ L.map (·.2)) && likeB S S' e r L then renF S S' es M n (L ++ [(e, r)]) else none) = none ∧ ∃ v7 v8, σ = [some (.ref q), some (.ref q'), some (.ref mt), some (.ref l), some (.ref le), some (.str e), some (.ref D), v7, v8, none, none]) (i + 1) [some (.ref q), some (.ref q'), some (.ref mt), some (.ref l), some (.ref le), some (.str e), some (.ref D), v7', v8', none, none] H5 := fun s5 z => by
              refine ⟨Same.trans s4 s5, s5 _ _ hD4, ?_, _, _, rfl⟩
              rw [htk, List.findSome?_append, hno, List.findSome?_cons, z]
              rfl
            have hyes : ∀ {L' : List (Str × Str)}, (if !decide (r ∈ L.map (·.2)) && likeB S S' e r L then renF S S' es M n (L ++ [(e, r)]) else none) = some L' → (M e).findSome? (fun r => if !decide (r ∈ L.map (·.2)) && likeB S S' e r L then renF S S' es M n (L ++ [(e, r)]) else none) = some L' := fun {L'} z => by
              rw [← List.take_append_drop (i + 1) (M e), htk, List.findSome?_append, List.findSome?_append, hno, List.findSome?_cons, z]
              rfl
            refine ite2 (fun h => ?_) (fun h => ?_)
            · refine ⟨_, rfl, _, rfl, _, rfl, _, rfl, _, rfl, q, q', l, ps, ps', S, S', e, r, ts, L, rfl, hS4, hS4', he1, he3 r hrm, hl4, hT4, hin, _, rfl, ?_⟩
              refine ite2 (fun h' => ?_) (fun h' => ?_)
              · refine seq_asg ?_
                have hG : (if !decide (r ∈ L.map (·.2)) && likeB S S' e r L then renF S S' es M n (L ++ [(e, r)]) else none) = renF S S' es M n (L ++ [(e, r)]) := by rw [h, h']; rfl
                refine ⟨_, rfl, _, rfl, _, rfl, _, rfl, l, _, rfl, .inr (.inl (.inl hl4)), _, rfl, _, rfl, sz 2, fun t nt => ?_⟩
                have s5 := same_upd nt (o := .tup [.str e, .str r])
                have kt : (upd H4 t (.tup [.str e, .str r])) t = some (.tup [.str e, .str r]) := upd_same
                revert s5 kt
                generalize upd H4 t (.tup [.str e, .str r]) = H5
                intro s5 kt
                refine ⟨?_, fun p np => ?_⟩
                · rw [List.length_append, htl]
                  exact Nat.le_of_lt (Nat.lt_of_le_of_lt (Nat.succ_le_succ (Nat.le_trans l2 (Nat.succ_le_succ h8))) (Nat.lt_of_lt_of_le (by decide) (sz 100)))
                have s6 := Same.trans s5 (same_upd np (o := .lst (ts.map V.ref ++ [.ref t])))
                have kp : (upd H5 p (.lst (ts.map V.ref ++ [.ref t]))) p = some (.lst ((ts ++ [t]).map V.ref)) := by rw [upd_same, List.map_append]; rfl
                have kt := same_upd np (o := .lst (ts.map V.ref ++ [.ref t])) _ _ kt
                revert s6 kp kt
                generalize upd H5 p (.lst (ts.map V.ref ++ [.ref t])) = H6
                intro s6 kp kt
                refine ⟨q, q', mt, p, ps, ps', S, S', es, M, ts ++ [t], L ++ [(e, r)], rfl, hS4.same s6, hS4'.same s6, hM4.same s6, hnd, h8, hes, kp, paired_app2 (hT4.same s6) (.cons kt .nil), ?_, ?_, ?_, ?_, fun v H7 s7 hv => ?_⟩
                · intro c hc
                  rcases List.mem_append.mp hc with z | z
                  · exact hin c z
                  · cases List.mem_singleton.mp z
                    exact ⟨he1, he3 r hrm⟩
                · rw [List.length_append]
                  omega
                · rw [List.length_append]
                  show L.length + 1 ≤ _
                  omega
                · rw [List.length_append]
                  show _ ≤ L.length + 1 + n
                  omega
                have s47 := Same.trans s6 s7
                refine gname ?_
                refine ⟨_, rfl, rfl, ?_⟩
                rcases hv with ⟨hv1, rfl⟩ | ⟨l', ts', L', hv1, rfl, hv2, hv3⟩
                · exact ⟨_, rfl, hgo s47 (hG.trans hv1)⟩
                · rw [hyes (hG.trans hv1)] at qq
                  exact ⟨_, rfl, _, rfl, qq _ _ (Same.trans s4 s47) (.inr ⟨l', ts', L', rfl, rfl, hv2, hv3⟩)⟩
              · exact hgo (fun _ _ z => z) (by rw [h, Bool.eq_false_iff.mpr h']; rfl)
            · exact hgo (fun _ _ z => z) (by rw [Bool.eq_false_iff.mpr h]; rfl)
        · obtain ⟨s4, hD4, hno, v7, v8, rfl⟩ := pv
          rw [List.length_map, List.take_length] at hno
          rw [hno] at qq
          exact qq _ _ s4 (.inl ⟨rfl, rfl⟩)

end
end Pk

set_option Elab.async false
set_option linter.all false
set_option maxRecDepth 100000
set_option maxHeartbeats 4000000
namespace Pk
open PySem PySem.Spec PyProof.Rows L2 Pu
abbrev s_renaming : Stmt := topS 43
theorem sc_renaming : FnScope ["one", "other", "sums", "others", "profiles", "wanted", "matches", "found", "event", "new"] ["one", "other"] (defScope s_renaming) := ⟨rfl, rfl, rfl, by decide +kernel, rfl, by decide +kernel, by decide +kernel⟩

section
variable {P : Program} {w : World} {K : PySem.W.Frag} {mg : Str → Option Value} {base : Heap}
/-- a dict comprehension over a walk -/
theorem dc_it {J : It} {n : Nat} {G : Hp → Prop} {Y : Nat → Hp → V → Hp → Prop} (w : Walk J n G Y) {g : TG} {tt : TT} {tk tv : TE} {vs : List Nat} {σ : L2.St} {H1 : Hp} {D : Addr} {Qd : Hp → Prop} (Pv : Nat → Hp → Prop) (h0 : Pv 0 (upd H1 D (.dK []))) (hG : ∀ i H, i ≤ n → Pv i H → G H)
    (hs : ∀ i x H H', i < n → Pv i H → Y i H x H' → g x (wipe σ vs) H' fun σ2 H2 => wipe σ2 vs = wipe σ vs ∧ tt σ2 H2 fun b H3 =>
      if b = true then tk σ2 H3 fun y H4 => tv σ2 H4 fun z H5 => ∃ kvs k, y = kV k ∧ H5 D = some (.dK kvs) ∧ kvs.length < sizeLine ∧ Pv (i + 1) (upd H5 D (.dK (putK kvs k z))) else Pv (i + 1) H3) (hd : ∀ H, Pv n H → Qd H) :
    ∃ W : Nat → Nat → Hp → Prop, (∃ m, W 0 m (upd H1 D (.dK []))) ∧ ∀ i m H, W i m H →
      (J.stop i H ∧ Qd H) ∨ (J.go i H ∧ ∃ Nx : Hp → Prop, (∀ H', Nx H' → ∃ m', m' < m ∧ W (i + 1) m' H') ∧ ∀ x H', J.yld i H x H' → g x (wipe σ vs) H' fun σ2 H2 => wipe σ2 vs = wipe σ vs ∧ tt σ2 H2 fun b H3 =>
        if b = true then tk σ2 H3 fun y H4 => tv σ2 H4 fun z H5 => ∃ kvs k, y = kV k ∧ H5 D = some (.dK kvs) ∧ kvs.length < sizeLine ∧ Nx (upd H5 D (.dK (putK kvs k z))) else Nx H3) := by
  refine ⟨fun i m H => m = n - i ∧ i ≤ n ∧ Pv i H, ⟨n, by simp, Nat.zero_le _, h0⟩, ?_⟩
  rintro i m H ⟨rfl, hi, p⟩
  rcases Nat.lt_or_ge i n with hlt | hge
  · exact .inr ⟨w.goes i H hlt (hG i H hi p), Pv (i + 1), fun H' p' => ⟨n - (i + 1), by omega, rfl, hlt, p'⟩, fun x H' y => hs i x H H' hlt p (w.yields i H x H' hlt (hG i H hi p) y)⟩
  · have e : i = n := Nat.le_antisymm hi hge
    subst e
    exact .inl ⟨w.stops H (hG _ H hi p), hd H p⟩
/-! ### plain data and the heap; dicts with a value for each name -/
section
variable {K : PySem.W.Frag}
mutual
theorem dp_keep {H H' : Hp} (k1 : ∀ a xs, Rd H a (.lst xs) → Rd H' a (.lst xs)) (k2 : ∀ a xs, Rd H a (.tup xs) → Rd H' a (.tup xs)) : ∀ {d : PyData} {v : V}, Dp K H v d → Dp K H' v d
  | .none, _, h => by cases h; exact .non
  | .bool _, _, h => by cases h; exact .bl _
  | .int _, _, h => by cases h; exact .int _
  | .str _, _, h => by cases h; exact .str _
  | .list _, _, h => by
    cases h with
    | lst hs ha => exact .lst (hs.imp (k1 _ _) id) (dpAll_keep k1 k2 ha)
  | .tuple _, _, h => by
    cases h with
    | tup hs ha => exact .tup (hs.imp (k2 _ _) id) (dpAll_keep k1 k2 ha)
  | .dict _, _, h => by cases h
theorem dpAll_keep {H H' : Hp} (k1 : ∀ a xs, Rd H a (.lst xs) → Rd H' a (.lst xs)) (k2 : ∀ a xs, Rd H a (.tup xs) → Rd H' a (.tup xs)) : ∀ {ds : List PyData} {vs : List V}, DpAll K H vs ds → DpAll K H' vs ds
  | [], _, h => by cases h; exact .nil
  | _ :: _, _, h => by
    cases h with
    | cons h1 h2 => exact .cons (dp_keep k1 k2 h1) (dpAll_keep k1 k2 h2)
end
theorem rd_same {H H' : Hp} (s : Same H H') {a : Addr} {u : HO} (h : Rd H a u) : Rd H' a u := by
  rcases h with h | ⟨o, h⟩
  · exact .inl (s _ _ h)
  · exact .inr ⟨o, s _ _ h⟩
theorem dp_same {H H' : Hp} (s : Same H H') {d : PyData} {v : V} (h : Dp K H v d) : Dp K H' v d := dp_keep (fun _ _ => rd_same s) (fun _ _ => rd_same s) h
/-- a dict's cell written anew -/
theorem rd_dict {H : Hp} {q : Addr} {kvs : List (Key × V)} (hq : Rd H q (.dK kvs)) {o : HO} {a : Addr} {u : HO} (hu : ∀ kvs, u ≠ .dK kvs) (hf : ∀ o u', u ≠ .frz o u') (h : Rd H a u) : Rd (upd H q o) a u := by
  have ne : a ≠ q := fun z => by
    subst z
    rcases hq with hq | ⟨o1, hq⟩ <;> rcases h with h | ⟨o2, h⟩ <;> rw [hq] at h <;> cases h
    · exact hu _ rfl
    · exact hf _ _ rfl
    · exact hu _ rfl
  rcases h with h | ⟨o2, h⟩
  · exact .inl (by rw [upd_ne ne]; exact h)
  · exact .inr ⟨o2, by rw [upd_ne ne]; exact h⟩
theorem dp_upd {H : Hp} {q : Addr} {kvs : List (Key × V)} (hq : Rd H q (.dK kvs)) {o : HO} {d : PyData} {v : V} (h : Dp K H v d) : Dp K (upd H q o) v d :=
  dp_keep (fun _ _ => rd_dict hq (fun _ z => by cases z) fun _ _ z => by cases z) (fun _ _ => rd_dict hq (fun _ z => by cases z) fun _ _ z => by cases z) h
end
def outW (es : List Str) (va : Str → V) : List (Key × V) := es.map fun e => (.inr e, va e)
theorem nin_take {es : List Str} (nd : es.Nodup) {i : Nat} (hi : i < es.length) : es[i] ∉ es.take i := fun hm => by
  obtain ⟨j, hj, e⟩ := List.getElem_of_mem hm
  rw [List.getElem_take] at e
  rw [List.length_take] at hj
  exact List.pairwise_iff_getElem.mp nd j i (by omega) hi (by omega) e
theorem outW_put {es : List Str} (nd : es.Nodup) {i : Nat} (hi : i < es.length) {va : Str → V} {v : V} : putK (outW (es.take i) va) (.inr es[i]) v = outW (es.take (i + 1)) fun x => if x = es[i] then v else va x := by
  rw [putK_fresh, List.take_add_one, List.getElem?_eq_getElem hi]
  · unfold outW
    rw [List.map_append]
    congr 1
    · refine List.map_congr_left fun e he => ?_
      dsimp only
      rw [if_neg (fun h : e = es[i] => nin_take nd hi (h ▸ he))]
    · show _ = [((.inr es[i] : Key), if es[i] = es[i] then v else va es[i])]
      rw [if_pos rfl]
  · intro pr hpr e
    obtain ⟨e0, he0, rfl⟩ := List.mem_map.mp hpr
    have e : (Sum.inr e0 : Key) = .inr es[i] := e
    exact nin_take nd hi (Sum.inr.inj e ▸ he0)
theorem outW_len {es : List Str} {va : Str → V} : (outW es va).length = es.length := List.length_map ..
theorem outW_get {es : List Str} {va : Str → V} {e : Str} (h : e ∈ es) : valV (outW es va) (.inr e) = some (va e) := by
  induction es with
  | nil => cases h
  | cons p r ih =>
    show valV ((.inr p, va p) :: outW r va) (.inr e) = _
    by_cases z : p = e
    · rw [valV_pos (show (Sum.inr p : Key) = .inr e by rw [z]), z]
    · rw [valV_neg (fun y => z (Sum.inr.inj y)), ih ((List.mem_cons.mp h).resolve_left fun y => z y.symm)]
/-- a dict of plain data under way -/
def ProfAt (K : PySem.W.Frag) (H : Hp) (D : Addr) (es : List Str) (f : Str → PyData) : Prop := ∃ va : Str → V, H D = some (.dK (outW es va)) ∧ ∀ e ∈ es, Dp K H (va e) (f e)
theorem ProfAt.same {K : PySem.W.Frag} {H H' : Hp} {D : Addr} {es : List Str} {f : Str → PyData} (h : ProfAt K H D es f) (s : Same H H') : ProfAt K H' D es f := by
  obtain ⟨va, h1, h2⟩ := h
  exact ⟨va, s _ _ h1, fun e he => dp_same s (h2 e he)⟩
theorem prof_put {K : PySem.W.Frag} {H2 H3 H5 : Hp} {D : Addr} {es : List Str} {f : Str → PyData} (nd : es.Nodup) (h8 : es.length ≤ 8) {i : Nat} (hi : i < es.length) (nD : H2 D = none) (s3 : Same H2 H3) (h : ProfAt K H3 D (es.take i) f) (s5 : Same H3 H5) {v : V} (hv : Dp K H5 v (f es[i])) :
    ∃ kvs k, V.str es[i] = kV k ∧ H5 D = some (.dK kvs) ∧ kvs.length < sizeLine ∧ (Same H2 (upd H5 D (.dK (putK kvs k v))) ∧ ProfAt K (upd H5 D (.dK (putK kvs k v))) D (es.take (i + 1)) f) := by
  obtain ⟨va, h1, h2⟩ := h
  have h15 := s5 _ _ h1
  refine ⟨_, .inr es[i], rfl, h15, ?_, same_put nD (Same.trans s3 s5), fun x => if x = es[i] then v else va x, ?_, fun e he => ?_⟩
  · rw [outW_len, List.length_take]
    exact Nat.lt_of_le_of_lt (Nat.min_le_right _ _) (Nat.lt_of_le_of_lt h8 (Nat.lt_of_lt_of_le (by decide) (sz 10)))
  · rw [upd_same, outW_put nd hi]
  · rw [List.take_add_one, List.getElem?_eq_getElem hi] at he
    dsimp only
    rcases List.mem_append.mp he with z | z
    · rw [if_neg (fun y : e = es[i] => nin_take nd hi (y ▸ z))]
      exact dp_upd (.inl h15) (dp_same s5 (h2 e z))
    · have z : e = es[i] := List.mem_singleton.mp z
      rw [if_pos z, z]
      exact dp_upd (.inl h15) hv
/-! ### what is told of the profiles -/
theorem canLay_ints : ∀ xs : List Int, PyData.canLayAll0 (xs.map .int) = true
  | [] => by simp [PyData.canLayAll0]
  | x :: xs => by
    show PyData.canLayAll0 (.int x :: xs.map .int) = true
    rw [PyData.canLayAll0, canLay_ints xs]
    simp [PyData.canLay0]
theorem encP_lay (p : PrD) : (encP p).canLay0 = true := by
  show PyData.canLay0 (.tuple [.int p.top, .tuple (p.on.map .int), .tuple (p.ba.map .int)]) = true
  simp only [PyData.canLay0, PyData.canLayAll0, canLay_ints, Bool.and_self]
theorem encP_depth (p : PrD) : (encP p).depth ≤ 3 := by
  show PyData.depth (.tuple [.int p.top, .tuple (p.on.map .int), .tuple (p.ba.map .int)]) ≤ 3
  simp only [PyData.depth, PyData.depthAll, PySem.W.depth_ints]
  decide
theorem encP_shaped (p : PrD) : SeqAt.shaped (encP p) = true := by
  unfold SeqAt.shaped
  rw [encP_lay, Bool.true_and]
  exact decide_eq_true (Nat.le_trans (encP_depth p) (by decide))
theorem encP_alike (p q : PrD) : PySem.W.alike (encP p) (encP q) = true := by
  show PySem.W.alike (.tuple [.int p.top, .tuple (p.on.map .int), .tuple (p.ba.map .int)]) (.tuple [.int q.top, .tuple (q.on.map .int), .tuple (q.ba.map .int)]) = true
  simp only [PySem.W.alike, PySem.W.alikeAll, PySem.W.alike_ints, Bool.and_self]
theorem list_shaped {ds : List PyData} (h : ∀ d ∈ ds, d.canLay0 = true ∧ d.depth ≤ 3) : SeqAt.shaped (.list ds) = true := by
  have h1 : PyData.canLayAll0 ds = true := by
    induction ds with
    | nil => simp [PyData.canLayAll0]
    | cons d ds ih => rw [PyData.canLayAll0, (h d (List.mem_cons_self ..)).1, ih fun e he => h e (List.mem_cons_of_mem _ he)]; rfl
  have h2 : PyData.depthAll ds ≤ 3 := by
    clear h1
    induction ds with
    | nil => simp [PyData.depthAll]
    | cons d ds ih =>
      have := (h d (List.mem_cons_self ..)).2
      have := ih fun e he => h e (List.mem_cons_of_mem _ he)
      rw [PyData.depthAll]
      omega
  unfold SeqAt.shaped
  simp only [PyData.canLay0, PyData.depth, h1, Bool.true_and]
  exact decide_eq_true (by omega)
theorem outW_vals {es : List Str} {va : Str → V} : (outW es va).map (fun kv => kv.2) = es.map va := by
  unfold outW
  rw [List.map_map]
  rfl
theorem dp_map {K : PySem.W.Frag} {H : Hp} {va : Str → V} {f : Str → PyData} : ∀ {es : List Str}, (∀ e ∈ es, Dp K H (va e) (f e)) → DpAll K H (es.map va) (es.map f)
  | [], _ => .nil
  | e :: es, h => .cons (h e (List.mem_cons_self ..)) (dp_map fun e he => h e (List.mem_cons_of_mem _ he))
theorem srtL_mem {ds : List PyData} {d : PyData} (h : d ∈ srtL ds) : d ∈ ds := (List.mergeSort_perm ..).mem_iff.mp h
theorem dpAll_keep' {K : PySem.W.Frag} {H H' : Hp} (s : Same H H') {ds : List PyData} {vs : List V} (h : DpAll K H vs ds) : DpAll K H' vs ds := dpAll_keep (fun _ _ => rd_same s) (fun _ _ => rd_same s) h
theorem cut_dropR (xs : List V) (k : Nat) : cutV xs (some (k : Int)) none = xs.drop k := by
  unfold cutV
  rw [HT.sIx_none, HT.sIx_nat, List.take_of_length_le (by rw [List.length_drop]; exact Nat.le_refl _)]
  by_cases h : k ≤ xs.length
  · rw [Nat.min_eq_left h]
  · rw [Nat.min_eq_right (by omega), List.drop_of_length_le (Nat.le_refl _), List.drop_of_length_le (by omega)]
theorem merge_ndS {L : List (Str × Str)} (nd : (L.map (·.1)).Nodup) : mergeK [] (kvR V.str L) = kvR V.str L := by
  rw [mergeK_nd (kvs := kvR V.str L) (acc := [])]
  · rfl
  · have e : (kvR V.str L).map (·.1) = (L.map (·.1)).map Sum.inr := by
      unfold kvR
      rw [List.map_map, List.map_map]
      rfl
    rw [List.nil_append, e]
    unfold List.Nodup
    rw [List.pairwise_map]
    exact List.Pairwise.imp (fun h z => h (Sum.inr.inj z)) nd
theorem pairSS_dict {K : PySem.W.Frag} {H : Hp} {ts : List Addr} {L : List (Str × Str)} (h : PairSS H ts L) : Paired (fun (p : Addr) (kv : Key × V) => SqT K H p [kV kv.1, kv.2]) ts (kvR V.str L) := by
  unfold PairSS at h
  induction h with
  | nil => exact .nil
  | cons r _ ih => exact .cons (.inl (.inl r)) ih
theorem pairSS_drop {H : Hp} {ts : List Addr} {L : List (Str × Str)} (h : PairSS H ts L) : PairSS H (ts.drop 1) (L.drop 1) := by
  unfold PairSS at *
  cases h with
  | nil => exact .nil
  | cons _ t => exact t
/-! ### the pairs that are found -/
section
variable {S S' : Str → Str → Option Int} {es : List Str} {M : Str → List Str}
def LikeP (S S' : Str → Str → Option Int) (c c' : Str × Str) : Prop := S c'.1 c.1 = S' c'.2 c.2 ∧ S c.1 c'.1 = S' c.2 c'.2
theorem likeB_iff {e r : Str} {L : List (Str × Str)} : likeB S S' e r L = true ↔ ∀ c ∈ L, LikeP S S' c (e, r) := by
  unfold likeB LikeP
  rw [List.all_eq_true]
  refine forall_congr' fun c => forall_congr' fun _ => ?_
  rw [Bool.and_eq_true, decide_eq_true_iff, decide_eq_true_iff]
theorem renF_sound : ∀ (n : Nat) {L L' : List (Str × Str)}, renF S S' es M n L = some L' → 1 ≤ L.length → L.length ≤ es.length + 1 → (L.map (·.2)).Nodup → L.Pairwise (LikeP S S') →
    L'.map (·.1) = L.map (·.1) ++ es.drop (L.length - 1) ∧ (L'.map (·.2)).Nodup ∧ L'.Pairwise (LikeP S S') ∧ ∀ c ∈ L', c ∈ L ∨ c.2 ∈ M c.1 := by
  intro n
  have done : ∀ {L L' : List (Str × Str)}, (some L = some L') → L.length > es.length → L.length ≤ es.length + 1 → (L.map (·.2)).Nodup → L.Pairwise (LikeP S S') →
      L'.map (·.1) = L.map (·.1) ++ es.drop (L.length - 1) ∧ (L'.map (·.2)).Nodup ∧ L'.Pairwise (LikeP S S') ∧ ∀ c ∈ L', c ∈ L ∨ c.2 ∈ M c.1 := by
    intro L L' h hgt l2 nd pw
    cases h
    refine ⟨?_, nd, pw, fun c hc => .inl hc⟩
    rw [List.drop_eq_nil_of_le (by omega), List.append_nil]
  induction n with
  | zero =>
    intro L L' h l1 l2 nd pw
    have h : (if L.length > es.length then some L else none) = some L' := h
    by_cases hgt : L.length > es.length
    · rw [if_pos hgt] at h
      exact done h hgt l2 nd pw
    · rw [if_neg hgt] at h
      cases h
  | succ n ih =>
    intro L L' h l1 l2 nd pw
    have h : (if L.length > es.length then some L else (M (es.getD (L.length - 1) "")).findSome? fun r => if !decide (r ∈ L.map (·.2)) && likeB S S' (es.getD (L.length - 1) "") r L then renF S S' es M n (L ++ [(es.getD (L.length - 1) "", r)]) else none) = some L' := h
    by_cases hgt : L.length > es.length
    · rw [if_pos hgt] at h
      exact done h hgt l2 nd pw
    · rw [if_neg hgt] at h
      have hk : L.length - 1 < es.length := by omega
      have hgd : es.getD (L.length - 1) "" = es[L.length - 1] := by rw [List.getD_eq_getElem?_getD, List.getElem?_eq_getElem hk]; rfl
      rw [hgd] at h
      obtain ⟨r, hr, h⟩ := List.exists_of_findSome?_eq_some h
      by_cases hc : (!decide (r ∈ L.map (·.2)) && likeB S S' es[L.length - 1] r L) = true
      · rw [if_pos hc] at h
        rw [Bool.and_eq_true] at hc
        have hnew : r ∉ L.map (·.2) := by
          have := hc.1
          rw [Bool.not_eq_true'] at this
          exact of_decide_eq_false this
        have hl := likeB_iff.mp hc.2
        have nd2 : ((L ++ [(es[L.length - 1], r)]).map (·.2)).Nodup := by
          rw [List.map_append]
          exact List.nodup_append.mpr ⟨nd, List.pairwise_singleton .., fun a ha b hb z => hnew (by have hb := List.mem_singleton.mp hb; have hb : b = r := hb; rw [← hb, ← z]; exact ha)⟩
        have pw2 : (L ++ [(es[L.length - 1], r)]).Pairwise (LikeP S S') := List.pairwise_append.mpr ⟨pw, List.pairwise_singleton .., fun c hc d hd => by
          rw [List.mem_singleton.mp hd]
          exact hl c hc⟩
        obtain ⟨h1, h2, h3, h4⟩ := ih h (by rw [List.length_append]; exact Nat.le_add_left ..) (by rw [List.length_append]; show L.length + 1 ≤ _; omega) nd2 pw2
        refine ⟨?_, h2, h3, fun c hc => ?_⟩
        · rw [h1, List.length_append, List.map_append, List.append_assoc]
          congr 1
          show es[L.length - 1] :: es.drop (L.length + 1 - 1) = _
          rw [List.drop_eq_getElem_cons hk, show L.length + 1 - 1 = L.length - 1 + 1 from by omega]
        · rcases h4 c hc with z | z
          · rcases List.mem_append.mp z with z | z
            · exact .inl z
            · rw [List.mem_singleton.mp z]
              exact .inr hr
          · exact .inr z
      · rw [if_neg hc] at h
        cases h
/-- where there are new names for all, some are found -/
theorem renF_some {σ : Str → Str} (nde : es.Nodup) (h0 : ("" : Str) ∉ es) (s0 : σ "" = "") (inj : ∀ a ∈ ("" : Str) :: es, ∀ b ∈ ("" : Str) :: es, σ a = σ b → a = b) (hM : ∀ e ∈ es, σ e ∈ M e) (hS : ∀ a ∈ ("" : Str) :: es, ∀ b ∈ ("" : Str) :: es, S a b = S' (σ a) (σ b)) :
    ∀ (n i : Nat), i ≤ es.length → es.length ≤ i + n → (renF S S' es M n ((("" : Str) :: es.take i).map fun e => (e, σ e))).isSome = true := by
  intro n
  have len : ∀ i, i ≤ es.length → ((("" : Str) :: es.take i).map fun e => (e, σ e)).length = i + 1 := fun i hi => by
    rw [List.length_map, List.length_cons, List.length_take]
    omega
  induction n with
  | zero =>
    intro i hi hn
    show (if _ > es.length then some _ else none).isSome = true
    rw [if_pos (by rw [len i hi]; omega)]
    rfl
  | succ n ih =>
    intro i hi hn
    show (if _ > es.length then some _ else _).isSome = true
    by_cases hgt : i + 1 > es.length
    · rw [if_pos (by rw [len i hi]; omega)]
      rfl
    · rw [if_neg (by rw [len i hi]; exact hgt)]
      have hk : i < es.length := by omega
      have hgd : es.getD (((("" : Str) :: es.take i).map fun e => (e, σ e)).length - 1) "" = es[i] := by
        rw [len i hi, List.getD_eq_getElem?_getD, Nat.add_sub_cancel, List.getElem?_eq_getElem hk]
        rfl
      rw [hgd]
      have hem := List.getElem_mem hk
      rw [List.findSome?_isSome_iff]
      refine ⟨σ es[i], hM _ hem, ?_⟩
      have sub : ∀ e ∈ ("" : Str) :: es.take i, e ∈ ("" : Str) :: es := fun e he => by
        rcases List.mem_cons.mp he with z | z
        · rw [z]
          exact List.mem_cons_self ..
        · exact List.mem_cons_of_mem _ (List.mem_of_mem_take z)
      have hnew : σ es[i] ∉ ((("" : Str) :: es.take i).map fun e => (e, σ e)).map (·.2) := fun hm => by
        rw [List.map_map] at hm
        obtain ⟨e, he, z⟩ := List.mem_map.mp hm
        have z : σ e = σ es[i] := z
        have z := inj _ (sub e he) _ (List.mem_cons_of_mem _ hem) z
        rcases List.mem_cons.mp he with y | y
        · exact h0 (y ▸ z ▸ hem)
        · exact nin_take nde hk (z ▸ y)
      have hlike : likeB S S' es[i] (σ es[i]) ((("" : Str) :: es.take i).map fun e => (e, σ e)) = true := likeB_iff.mpr fun c hc => by
        obtain ⟨e, he, rfl⟩ := List.mem_map.mp hc
        exact ⟨hS _ (List.mem_cons_of_mem _ hem) _ (sub e he), hS _ (sub e he) _ (List.mem_cons_of_mem _ hem)⟩
      rw [if_pos (by rw [decide_eq_false hnew, hlike]; rfl)]
      have e1 : ((("" : Str) :: es.take i).map fun e => (e, σ e)) ++ [(es[i], σ es[i])] = (("" : Str) :: es.take (i + 1)).map fun e => (e, σ e) := by
        rw [List.take_add_one, List.getElem?_eq_getElem hk, ← List.cons_append, List.map_append]
        rfl
      rw [e1]
      exact ih (i + 1) (by omega) (by omega)
end

/-! ### new names for a plan -/
theorem opEqDK {X : Cx} (K : PySem.W.Frag) (hu : X.A.units + 64 < cLine) (hK : X.K = K := by rfl) : OpR X (compareOp .Eq) (rEqD K) := by
  subst hK
  exact op_eqD hu
theorem opNeDK {X : Cx} (K : PySem.W.Frag) (hu : X.A.units + 64 < cLine) (hK : X.K = K := by rfl) : OpR X (compareOp .NotEq) (rNeD K) := by
  subst hK
  exact op_neD hu
def prS (d : PlanD) (e : Str) : PyData := encP (prfD (("" : Str) :: d.evs) (farS d) e)
def matS (d1 d2 : PlanD) (e : Str) : List Str := d2.evs.filter fun r => PyData.eqv (prS d2 r) (prS d1 e)
def rnmD (d1 d2 : PlanD) : Option (List (Str × Str)) :=
  if PyData.eqv (.list (srtL (d1.evs.map (prS d1)))) (.list (srtL (d2.evs.map (prS d2)))) then (renF (farS d1) (farS d2) d1.evs (matS d1 d2) 8 [("", "")]).map (List.drop 1) else none
def RenD (H : Hp) (v : V) (o : Option (List (Str × Str))) : Prop := (o = none ∧ v = .non) ∨ ∃ (a : Addr) (L : List (Str × Str)), o = some L ∧ v = .ref a ∧ H a = some (.dK (kvR V.str L))
def spRnm (K : PySem.W.Frag) (C : Addr) : Sp := fun vs H Q _ => ∃ (p1 p2 : Addr) (d1 d2 : PlanD), vs = [.ref p1, .ref p2] ∧ PlanAt K C H p1 d1 ∧ PlanAt K C H p2 d2 ∧ PlanOk d1 ∧ PlanOk d2 ∧ ∀ v H', Same H H' → RenD H' v (rnmD d1 d2) → (∀ a, v = .ref a → H a = none) → Q v H'
theorem prS_all (d : PlanD) : ∀ y ∈ d.evs.map (prS d), ∃ p, y = encP p := fun y hy => by
  obtain ⟨e, _, rfl⟩ := List.mem_map.mp hy
  exact ⟨_, rfl⟩
theorem prS_alike (d : PlanD) : PySem.W.AllAlike (d.evs.map (prS d)) := fun y hy z hz => by
  obtain ⟨p, rfl⟩ := prS_all d y hy
  obtain ⟨q, rfl⟩ := prS_all d z hz
  exact encP_alike p q
theorem prS_sortable (d : PlanD) : PySem.W.Sortable (d.evs.map (prS d)) := .inl fun y hy => by
  obtain ⟨p, rfl⟩ := prS_all d y hy
  exact ⟨_, _, rfl⟩
theorem prS_depth (d : PlanD) : ∀ y ∈ d.evs.map (prS d), y.depth ≤ 20 := fun y hy => by
  obtain ⟨p, rfl⟩ := prS_all d y hy
  exact Nat.le_trans (encP_depth p) (by decide)
theorem prS_shaped (d : PlanD) : SeqAt.shaped (.list (srtL (d.evs.map (prS d)))) = true := list_shaped fun y hy => by
  obtain ⟨p, rfl⟩ := prS_all d y (srtL_mem hy)
  exact ⟨encP_lay p, encP_depth p⟩
theorem ok_rnm {C CE f : Addr} {fd : FuncData} (F : Fun K "renaming" "renaming" s_renaming f fd) (T : Txt mg) (PI : PlanI K C) (mEvents : CalM P w K mg base 1 C "events" (spPEvents K C)) (cneed_plan : CalX P w K mg base 1 "need_plan" (spNeedPlan K C CE)) (cclosed_sums : Cal P w K mg base 3 "closed_sums" (spClosedSm K C) []) (cprofile : Cal P w K mg base 1 "profile" (spProf K) []) (crenamed_on : Cal P w K mg base 11 "renamed_on" (spRen 9) []) : FnOk P w K mg base CX0 12 f fd ["one", "other"] (spRnm K C) := by
  have nd := sc_renaming.nd
  refine F.ok sc_renaming (fun vs H Q E h => ?_) (fun cdv A outer s H vs Q E hr h => ?_)
  · obtain ⟨_, _, _, _, rfl, _⟩ := h
    rfl
  · obtain ⟨p1, p2, d1, d2, rfl, hp1, hp2, ok1, ok2, qq⟩ := h
    have hu := hu_of hr
    have hu2 := hr.units
    refine ⟨_, (pss_cons (ps_expr (pe_cX0 cneed_plan hr (by decide) rfl (pa_cons (pv 0) pa_nil)))
      (pss_cons (ps_expr (pe_cX0 cneed_plan hr (by decide) rfl (pa_cons (pv 1) pa_nil)))
      (pss_cons (ps_set (i := 2) nd rfl (Or.inr rfl) (pe_c cclosed_sums hr (by decide) rfl (pa_cons (pv 0) pa_nil)))
      (pss_cons (ps_set (i := 3) nd rfl (Or.inr rfl) (pe_c cclosed_sums hr (by decide) rfl (pa_cons (pv 1) pa_nil)))
      (pss_cons (ps_set (i := 4) nd rfl (Or.inr rfl) (pe_dc (own := [("event", 8)]) (g := gName 8) (tt := tYes) rfl nd (pi_list (pe_m0' (pv 0) PI.cls mEvents hr (by decide))) (blkOk_by (N := ["one", "other", "sums", "others", "profiles", "wanted", "matches", "found", "event", "new"]) (sc := defScope s_renaming) (by decide +kernel)) (fun _ _ _ _ _ => pg_name (i := 8) nd rfl (Or.inl rfl)) (fun _ _ _ _ _ => pts_nil) (fun _ _ _ _ _ => (pv 8)) (fun _ _ _ _ _ => (pe_c cprofile hr (by decide) rfl (pa_cons (pv 2) (pa_cons (pv 8) pa_nil))))))
      (pss_cons (ps_set (i := 5) nd rfl (Or.inr rfl) (pe_dc (own := [("event", 8)]) (g := gName 8) (tt := tYes) rfl nd (pi_list (pe_m0' (pv 1) PI.cls mEvents hr (by decide))) (blkOk_by (N := ["one", "other", "sums", "others", "profiles", "wanted", "matches", "found", "event", "new"]) (sc := defScope s_renaming) (by decide +kernel)) (fun _ _ _ _ _ => pg_name (i := 8) nd rfl (Or.inl rfl)) (fun _ _ _ _ _ => pts_nil) (fun _ _ _ _ _ => (pv 8)) (fun _ _ _ _ _ => (pe_c cprofile hr (by decide) rfl (pa_cons (pv 3) (pa_cons (pv 8) pa_nil))))))
      (pss_cons (ps_if (pt_cmpR (opNeDK K hu2) (pe_callB (srtD K hr) (by rfl) T.m_sorted PyProof.Rows.boot_sorted (pa_cons (pe_listVals rfl (pv 4) (by rfl) T.m_list) pa_nil)) (pe_callB (srtD K hr) (by rfl) T.m_sorted PyProof.Rows.boot_sorted (pa_cons (pe_listVals rfl (pv 5) (by rfl) T.m_list) pa_nil)) (by rfl))
      (pss_one (ps_ret pe_non)) pss_nil)
      (pss_cons (ps_lock (ps_setDc (i := 6) (y := "matches") (own := [("event", 8)]) (g := gName 8) (tt := tYes) rfl nd rfl rfl (sw_dict rfl rfl rfl (by decide +kernel)) (pi_keys (pv 4)) (blkOk_by (N := ["one", "other", "sums", "others", "profiles", "wanted", "matches", "found", "event", "new"]) (sc := defScope s_renaming) (by decide +kernel)) (fun _ _ _ _ _ => pg_name (i := 8) nd rfl (Or.inr rfl)) (fun _ _ _ _ _ => pts_nil) (fun _ _ _ _ _ => (pv 8)) (fun _ _ _ _ _ => (by exact (pe_lock (pe_lc (own := [("new", 9)]) (g := gName 9) (wi := iKeys (tVar 5)) rfl nd (pi_keys (pv 5)) (blkOk_by (N := ["one", "other", "sums", "others", "profiles", "wanted", "matches", "found", "event", "new"]) (sc := { kind := .function, names := [(".0", .local), ("event", .cell), ("profiles", .cell), ("wanted", .cell)], isGenerator := false, isCoroutine := false }) (by decide +kernel)) (fun _ _ _ _ _ => pg_name (i := 9) nd rfl (Or.inl rfl)) (fun _ _ _ _ _ => pts_one (pt_cmpR (opEqDK K hu2) (pe_dget hu (pv 5) (pv 9) (fun _ _ => rfl)) (pe_dget hu (pv 4) (pv 8) (fun _ _ => rfl)) (by rfl))) (fun _ _ _ _ _ => (pv 9))))))))
      (pss_cons (ps_set (i := 7) nd rfl (Or.inl rfl) (pe_c crenamed_on hr (by decide) rfl (pa_cons (pv 2) (pa_cons (pv 3) (pa_cons (pv 6) (pa_cons (pe_lst (pa_cons (pe_tup (pa_cons (pe_gs rfl T.m_NOTHING) (pa_cons (pe_gs rfl T.m_NOTHING) pa_nil))) pa_nil)) pa_nil))))))
      (pss_one (ps_ret (pe_ifExp (pt_cmpR op_isN (pv 7) pe_non (by rfl)) pe_non (pe_callTy (call_dictP rfl) (by rfl) T.m_dict PyProof.Rows.boot_dict (pa_cons (pe_slice (slL K) (pv 7) (po_some pe_int) po_none) pa_nil)))))))))))))), ?_⟩
    have n8 := ok1.evs.hi
    have m8 := ok2.evs.hi
    have nd1 := ok1.evs.nd
    have nd2 := ok2.evs.nd
    obtain ⟨dx, o, r, cc, ts0, g1, _⟩ := id hp1.ex
    obtain ⟨dx2, o2, r2, cc2, ts2, g2, _⟩ := id hp2.ex
    refine ⟨_, rfl, _, rfl, .inl ⟨p1, d1, rfl, hp1, ?_⟩⟩
    refine ⟨_, rfl, _, rfl, .inl ⟨p2, d2, rfl, hp2, ?_⟩⟩
    refine ⟨_, rfl, p1, d1, rfl, hp1, ok1, fun q1 H1 s1 hS1 => ?_⟩
    refine gname ?_
    refine ⟨_, rfl, p2, d2, rfl, hp2.same s1, ok2, fun q2 H2 s2 hS2 => ?_⟩
    refine gname ?_
    dsimp only
    have hS1 := hS1.same s2
    have s02 := Same.trans s1 s2
    refine seq_asg ?_
    refine ⟨_, rfl, p1, dx, _, rfl, s02 _ _ g1, rfl, p1, d1, rfl, hp1.same s02, fun l1 nl1 => ⟨l1, rfl, ⟨_, .inl (.inl upd_same)⟩, fun D1 nD1 => ?_⟩⟩
    have s2a := same_upd nl1 (o := .lst (d1.evs.map V.str))
    have kl1 : (upd H2 l1 (.lst (d1.evs.map V.str))) l1 = some (.lst (d1.evs.map V.str)) := upd_same
    revert nD1 s2a kl1
    generalize upd H2 l1 (.lst (d1.evs.map V.str)) = H3
    intro nD1 s23 kl1
    have hS13 := hS1.same s23
    have hS23 := hS2.same s23
    refine dc_it (walk_list (K := K) (a := l1) (xs := d1.evs.map V.str)) (fun i H' => Same H3 H' ∧ ProfAt K H' D1 (d1.evs.take i) (prS d1)) ⟨same_upd nD1, fun _ => .non, upd_same, fun _ h => absurd h List.not_mem_nil⟩ (fun i H' _ pv => .inl (.inl (pv.1 _ _ kl1))) (fun i x H4' H4 hi pv yv => ?_) (fun H4 pv => ?_)
    · obtain ⟨rfl, hx⟩ := yv
      rw [List.length_map] at hi
      rw [List.getElem?_map, List.getElem?_eq_getElem hi] at hx
      cases hx
      refine ⟨rfl, _, rfl, _, rfl, _, rfl, q1, _, farS d1, d1.evs[i], rfl, hS13.same pv.1, evs_nd ok1, Nat.succ_le_succ n8, List.mem_cons_self .., List.mem_cons_of_mem _ (List.getElem_mem hi), fun v H5 s5 hv => ?_⟩
      exact prof_put nd1 n8 hi nD1 pv.1 pv.2 s5 hv
    obtain ⟨s34, hP1⟩ := pv
    rw [List.length_map, List.take_length] at hP1
    have s04 := Same.trans s02 (Same.trans s23 s34)
    have hS1 := hS13.same s34
    have hS2 := hS23.same s34
    clear hS13 hS23 s23 s34 nD1 kl1 nl1
    refine gname (seq_asg ?_)
    refine ⟨_, rfl, p2, dx2, _, rfl, s04 _ _ g2, rfl, p2, d2, rfl, hp2.same s04, fun l2 nl2 => ⟨l2, rfl, ⟨_, .inl (.inl upd_same)⟩, fun D2 nD2 => ?_⟩⟩
    have s2a := same_upd nl2 (o := .lst (d2.evs.map V.str))
    have kl2 : (upd H4 l2 (.lst (d2.evs.map V.str))) l2 = some (.lst (d2.evs.map V.str)) := upd_same
    revert nD2 s2a kl2
    generalize upd H4 l2 (.lst (d2.evs.map V.str)) = H5
    intro nD2 s45 kl2
    have hS15 := hS1.same s45
    have hS25 := hS2.same s45
    refine dc_it (walk_list (K := K) (a := l2) (xs := d2.evs.map V.str)) (fun i H' => Same H5 H' ∧ ProfAt K H' D2 (d2.evs.take i) (prS d2)) ⟨same_upd nD2, fun _ => .non, upd_same, fun _ h => absurd h List.not_mem_nil⟩ (fun i H' _ pv => .inl (.inl (pv.1 _ _ kl2))) (fun i x H6' H6 hi pv yv => ?_) (fun H6 pv => ?_)
    · obtain ⟨rfl, hx⟩ := yv
      rw [List.length_map] at hi
      rw [List.getElem?_map, List.getElem?_eq_getElem hi] at hx
      cases hx
      refine ⟨rfl, _, rfl, _, rfl, _, rfl, q2, _, farS d2, d2.evs[i], rfl, hS25.same pv.1, evs_nd ok2, Nat.succ_le_succ m8, List.mem_cons_self .., List.mem_cons_of_mem _ (List.getElem_mem hi), fun v H7 s7 hv => ?_⟩
      exact prof_put nd2 m8 hi nD2 pv.1 pv.2 s7 hv
    obtain ⟨s56, hP2⟩ := pv
    rw [List.length_map, List.take_length] at hP2
    have s46 := Same.trans s45 s56
    have s06 := Same.trans s04 s46
    have hS1 := hS15.same s56
    have hS2 := hS25.same s56
    have hDD : D1 ≠ D2 := by
      obtain ⟨_, v1, _⟩ := hP1.same s45
      exact ne_of_none v1 nD2
    have hP1 := hP1.same s46
    clear hS15 hS25 s45 s56 nD2 kl2 nl2
    refine gname (seq_st ?_)
    obtain ⟨va, v1, v2⟩ := id hP1
    obtain ⟨vb, w1, w2⟩ := id hP2
    refine ⟨_, rfl, D1, _, rfl, v1, fun l3 nl3 => ?_⟩
    have s67 := same_upd nl3 (o := .lst ((outW d1.evs va).map fun kv => kv.2))
    have kl3 : (upd H6 l3 (.lst ((outW d1.evs va).map fun kv => kv.2))) l3 = some (.lst (d1.evs.map va)) := by rw [upd_same, outW_vals]
    revert s67 kl3
    generalize upd H6 l3 (.lst ((outW d1.evs va).map fun kv => kv.2)) = H7
    intro s67 kl3
    refine ⟨l3, _, _, rfl, .inl (.inl kl3), dp_map fun e he => dp_same s67 (v2 e he), prS_alike d1, prS_sortable d1, prS_depth d1, fun ys p3 _ hys np3 => ?_⟩
    have s78 := same_upd np3 (o := .lst ys)
    have kp3 : (upd H7 p3 (.lst ys)) p3 = some (.lst ys) := upd_same
    have hys := dpAll_keep' s78 hys
    revert s78 kp3 hys
    generalize upd H7 p3 (.lst ys) = H8
    intro s78 kp3 hys
    have s68 := Same.trans s67 s78
    refine ⟨_, rfl, D2, _, rfl, s68 _ _ w1, fun l4 nl4 => ?_⟩
    have s89 := same_upd nl4 (o := .lst ((outW d2.evs vb).map fun kv => kv.2))
    have kl4 : (upd H8 l4 (.lst ((outW d2.evs vb).map fun kv => kv.2))) l4 = some (.lst (d2.evs.map vb)) := by rw [upd_same, outW_vals]
    revert s89 kl4
    generalize upd H8 l4 (.lst ((outW d2.evs vb).map fun kv => kv.2)) = H9
    intro s89 kl4
    refine ⟨l4, _, _, rfl, .inl (.inl kl4), dp_map fun e he => dp_same (Same.trans s68 s89) (w2 e he), prS_alike d2, prS_sortable d2, prS_depth d2, fun zs p4 _ hzs np4 => ?_⟩
    have s90 := same_upd np4 (o := .lst zs)
    have kp4 : (upd H9 p4 (.lst zs)) p4 = some (.lst zs) := upd_same
    have hzs := dpAll_keep' s90 hzs
    revert s90 kp4 hzs
    generalize upd H9 p4 (.lst zs) = H10
    intro s90 kp4 hzs
    have s8x := Same.trans s89 s90
    have s6x := Same.trans s68 s8x
    refine ⟨_, _, .lst (.inl (.inl (s8x _ _ kp3))) (dpAll_keep' s8x hys), .lst (.inl (.inl kp4)) hzs, prS_shaped d1, prS_shaped d2, _, rfl, ?_⟩
    have s0x := Same.trans s06 s6x
    have hS1 := hS1.same s6x
    have hS2 := hS2.same s6x
    have hP1 := hP1.same s6x
    have hP2 := hP2.same s6x
    clear hys hzs kp3 kp4 s90 s89 s78 s67 s68 s8x kl3 kl4 nl3 nl4 np3 np4 v1 v2 w1 w2
    refine ite2 (fun h => ?_) (fun h => ?_)
    · refine qq _ _ s0x (.inl ⟨?_, rfl⟩) (fun _ z => by cases z)
      unfold rnmD
      rw [if_neg (fun z => by rw [z] at h; cases h)]
    refine next_of ?_
    dsimp only
    have heq : PyData.eqv (.list (srtL (d1.evs.map (prS d1)))) (.list (srtL (d2.evs.map (prS d2)))) = true := by
      cases hz : PyData.eqv (.list (srtL (d1.evs.map (prS d1)))) (.list (srtL (d2.evs.map (prS d2)))) with
      | true => rfl
      | false => rw [hz] at h; exact absurd rfl h
    clear h
    obtain ⟨va, v1, v2⟩ := id hP1
    obtain ⟨vb, w1, w2⟩ := id hP2
    refine seq_st ?_
    refine ⟨D1, _, v1, True.intro, fun od => ?_⟩
    have hL : (L2.upd H10 D1 (.frz od (.dK (outW d1.evs va)))) D1 = some (.frz od (.dK (outW d1.evs va))) := upd_same
    have unl : ∀ {H'}, Same (L2.upd H10 D1 (.frz od (.dK (outW d1.evs va)))) H' → Same H10 (L2.upd H' D1 (.dK (outW d1.evs va))) := fun s => unlock_same v1 s
    have hw1 : (L2.upd H10 D1 (.frz od (.dK (outW d1.evs va)))) D2 = some (.dK (outW d2.evs vb)) := by rw [upd_ne (fun z => hDD z.symm)]; exact w1
    have v3 : ∀ e ∈ d1.evs, Dp K (L2.upd H10 D1 (.frz od (.dK (outW d1.evs va)))) (va e) (prS d1 e) := fun e he => dp_upd (.inl v1) (v2 e he)
    have w3 : ∀ e ∈ d2.evs, Dp K (L2.upd H10 D1 (.frz od (.dK (outW d1.evs va)))) (vb e) (prS d2 e) := fun e he => dp_upd (.inl v1) (w2 e he)
    revert hL unl hw1 v3 w3
    generalize L2.upd H10 D1 (.frz od (.dK (outW d1.evs va))) = H11
    intro hL unl hw1 v3 w3
    refine ⟨_, rfl, D1, od, rfl, .inl ⟨_, hL, fun D nD => ?_⟩⟩
    have hDn : D ≠ D1 := fun z => by rw [z, hL] at nD; cases nD
    refine dc_it (walk_keys (d := D1) (o := od) (kvs := outW d1.evs va)) (fun i H' => Same H11 H' ∧ ∃ ma : Str → Addr, H' D = some (.dK (outV (d1.evs.take i) ma)) ∧ ∀ e ∈ d1.evs.take i, H' (ma e) = some (.lst ((matS d1 d2 e).map V.str))) ⟨same_upd nD, fun _ => D, upd_same, fun _ h => absurd h List.not_mem_nil⟩ (fun i H' _ pv => pv.1 _ _ hL) (fun i x H3' H3 hi pv yv => ?_) (fun H3 pv => ?_)
    · obtain ⟨rfl, k, v, hk, rfl⟩ := yv
      obtain ⟨s3, ma, hD3, hm3⟩ := pv
      rw [outW_len] at hi
      have hk2 : (outW d1.evs va)[i]? = some (.inr d1.evs[i], va d1.evs[i]) := by
        unfold outW
        rw [List.getElem?_map, List.getElem?_eq_getElem hi]
        rfl
      rw [hk2] at hk
      cases hk
      have hem := List.getElem_mem hi
      have hw3 := s3 _ _ hw1
      refine ⟨rfl, _, rfl, D2, _, hw3, True.intro, fun od2 => ?_⟩
      have hL2 : (L2.upd H3 D2 (.frz od2 (.dK (outW d2.evs vb)))) D2 = some (.frz od2 (.dK (outW d2.evs vb))) := upd_same
      have hL1 : (L2.upd H3 D2 (.frz od2 (.dK (outW d2.evs vb)))) D1 = some (.frz od (.dK (outW d1.evs va))) := by rw [upd_ne hDD]; exact s3 _ _ hL
      have unl2 : ∀ {H'}, Same (L2.upd H3 D2 (.frz od2 (.dK (outW d2.evs vb)))) H' → Same H3 (L2.upd H' D2 (.dK (outW d2.evs vb))) := fun s => unlock_same hw3 s
      have fr2 : ∀ {b}, (L2.upd H3 D2 (.frz od2 (.dK (outW d2.evs vb)))) b = none → H3 b = none ∧ b ≠ D2 := fun {b} hb => by
        have : b ≠ D2 := fun z => by rw [z, hL2] at hb; cases hb
        rw [upd_ne this] at hb
        exact ⟨hb, this⟩
      have v4 : Dp K (L2.upd H3 D2 (.frz od2 (.dK (outW d2.evs vb)))) (va d1.evs[i]) (prS d1 d1.evs[i]) := dp_upd (.inl hw3) (dp_same s3 (v3 _ hem))
      have w4 : ∀ e ∈ d2.evs, Dp K (L2.upd H3 D2 (.frz od2 (.dK (outW d2.evs vb)))) (vb e) (prS d2 e) := fun e he => dp_upd (.inl hw3) (dp_same s3 (w3 e he))
      revert hL2 hL1 unl2 fr2 v4 w4
      generalize L2.upd H3 D2 (.frz od2 (.dK (outW d2.evs vb))) = H12
      intro hL2 hL1 unl2 fr2 v4 w4
      refine ⟨_, rfl, D2, od2, rfl, .inl ⟨_, hL2, fun B nB => ?_⟩⟩
      refine lc_it (walk_keys (d := D2) (o := od2) (kvs := outW d2.evs vb)) (fun j H' => Same H12 H' ∧ H' B = some (.lst (((d2.evs.take j).filter fun r => PyData.eqv (prS d2 r) (prS d1 d1.evs[i])).map V.str))) ⟨same_upd nB, upd_same⟩ (fun j H' _ pv => pv.1 _ _ hL2) (fun j x H5' H5 hj pv yv => ?_) (fun H5 pv => ?_)
      · obtain ⟨rfl, k, v, hk, rfl⟩ := yv
        obtain ⟨s5, hB5⟩ := pv
        rw [outW_len] at hj
        have hk3 : (outW d2.evs vb)[j]? = some (.inr d2.evs[j], vb d2.evs[j]) := by
          unfold outW
          rw [List.getElem?_map, List.getElem?_eq_getElem hj]
          rfl
        rw [hk3] at hk
        cases hk
        have hjm := List.getElem_mem hj
        have e2 : DGet H5 D2 (.str d2.evs[j]) (some (vb d2.evs[j])) := .inl ⟨outW d2.evs vb, .inr d2.evs[j], .inr ⟨od2, s5 _ _ hL2⟩, rfl, (outW_get hjm).symm⟩
        have e1 : DGet H5 D1 (.str d1.evs[i]) (some (va d1.evs[i])) := .inl ⟨outW d1.evs va, .inr d1.evs[i], .inr ⟨od, s5 _ _ hL1⟩, rfl, (outW_get hem).symm⟩
        have htk : d2.evs.take (j + 1) = d2.evs.take j ++ [d2.evs[j]] := by rw [List.take_add_one, List.getElem?_eq_getElem hj]; rfl
        refine ⟨rfl, _, rfl, _, rfl, D2, _, rfl, e2, _, rfl, _, rfl, D1, _, rfl, e1, _, _, dp_same s5 (w4 _ hjm), dp_same s5 v4, encP_shaped _, encP_shaped _, _, rfl, ite2 (fun h => ?_) (fun h => ?_)⟩
        · refine ⟨_, rfl, _, hB5, ?_, same_put nB s5, ?_⟩
          · rw [List.length_map]
            refine Nat.lt_of_le_of_lt (List.length_filter_le ..) ?_
            rw [List.length_take]
            exact Nat.lt_of_le_of_lt (Nat.min_le_right _ _) (Nat.lt_of_le_of_lt m8 (Nat.lt_of_lt_of_le (by decide) (sz 10)))
          · rw [upd_same, htk, List.filter_append, List.filter_cons (xs := []), if_pos h, List.filter_nil, List.map_append]
            rfl
        · refine ⟨s5, ?_⟩
          rw [htk, List.filter_append, List.filter_cons (xs := []), if_neg h, List.filter_nil, List.append_nil]
          exact hB5
      · obtain ⟨s5, hB5⟩ := pv
        rw [outW_len, List.take_length] at hB5
        refine ⟨s5 _ _ hL2, ?_⟩
        have s6 := unl2 s5
        have hB6 : (L2.upd H5 D2 (.dK (outW d2.evs vb))) B = some (.lst ((matS d1 d2 d1.evs[i]).map V.str)) := by
          rw [upd_ne (fr2 nB).2]
          exact hB5
        revert s6 hB6
        generalize L2.upd H5 D2 (.dK (outW d2.evs vb)) = H6
        intro s6 hB6
        have hD6 := s6 _ _ hD3
        have ne : ∀ {a xs}, H6 a = some (.lst xs) → a ≠ D := fun h => ne_of h hD6 (fun z => nomatch z)
        refine ⟨_, .inr d1.evs[i], rfl, hD6, ?_, same_put nD (Same.trans s3 s6), fun x => if x = d1.evs[i] then B else ma x, ?_, fun e he => ?_⟩
        · show (List.map _ _).length < _
          rw [List.length_map, List.length_take]
          exact Nat.lt_of_le_of_lt (Nat.min_le_right _ _) (Nat.lt_of_le_of_lt n8 (Nat.lt_of_lt_of_le (by decide) (sz 10)))
        · rw [upd_same]
          refine congrArg (fun z => some (HO.dK z)) ?_
          refine (outW_put nd1 hi (va := fun e => .ref (ma e)) (v := .ref B)).trans ?_
          refine List.map_congr_left fun e he => ?_
          dsimp only
          split <;> rfl
        · rw [List.take_add_one, List.getElem?_eq_getElem hi] at he
          dsimp only
          rcases List.mem_append.mp he with z | z
          · rw [if_neg (fun y : e = d1.evs[i] => nin_take nd1 hi (y ▸ z))]
            have h6 := s6 _ _ (hm3 e z)
            rw [upd_ne (ne h6)]
            exact h6
          · have z : e = d1.evs[i] := List.mem_singleton.mp z
            rw [if_pos z, upd_ne (ne hB6), z]
            exact hB6
    · obtain ⟨s3, ma, hD3, hm3⟩ := pv
      rw [outW_len, List.take_length] at hD3 hm3
      refine gname ⟨s3 _ _ hL, ?_⟩
      have s4 := unl s3
      have hM4 : MatAt (L2.upd H3 D1 (.dK (outW d1.evs va))) D d1.evs (matS d1 d2) := ⟨ma, by rw [upd_ne hDn]; exact hD3, fun e he => by
        have h3 := hm3 e he
        rw [upd_ne (ne_of h3 (s3 _ _ hL) (fun z => nomatch z))]
        exact h3⟩
      revert s4 hM4
      generalize L2.upd H3 D1 (.dK (outW d1.evs va)) = H4
      intro s4 hM4
      clear hD3 hm3 s3 hL unl hw1 v3 w3 nD v1 v2 w1 w2
      have hS1 := hS1.same s4
      have hS2 := hS2.same s4
      have s04 := Same.trans s0x s4
      refine next_of ?_
      dsimp only
      refine seq_asg ?_
      refine ⟨_, rfl, _, rfl, _, rfl, sz 2, fun t nt => ⟨sz 1, fun l nl => ?_⟩⟩
      have s5 := Same.trans (same_upd nt (o := .tup [.str "", .str ""])) (same_upd nl (o := .lst [.ref t]))
      have kt : (L2.upd (L2.upd H4 t (.tup [.str "", .str ""])) l (.lst [.ref t])) t = some (.tup [.str "", .str ""]) := same_upd nl (o := .lst [.ref t]) _ _ upd_same
      have kl : (L2.upd (L2.upd H4 t (.tup [.str "", .str ""])) l (.lst [.ref t])) l = some (.lst [.ref t]) := upd_same
      revert s5 kt kl
      generalize L2.upd (L2.upd H4 t (.tup [.str "", .str ""])) l (.lst [.ref t]) = H5
      intro s5 kt kl
      have mlen : ∀ e, (matS d1 d2 e).length ≤ 8 := fun e => Nat.le_trans (List.length_filter_le ..) m8
      refine ⟨q1, q2, D, l, _, _, farS d1, farS d2, d1.evs, matS d1 d2, [t], [("", "")], rfl, hS1.same s5, hS2.same s5, hM4.same s5, nd1, n8, fun e he => ⟨List.mem_cons_of_mem _ he, mlen e, fun r hr => List.mem_cons_of_mem _ ((List.mem_filter.mp hr).1)⟩, kl, .cons kt .nil, fun c hc => ?_, Nat.le_refl _, Nat.succ_le_succ (Nat.zero_le _), by show d1.evs.length + 1 ≤ 1 + 8; omega, fun v H6 s6 hv => ?_⟩
      · rw [List.mem_singleton.mp hc]
        exact ⟨List.mem_cons_self .., List.mem_cons_self ..⟩
      have s06 := Same.trans s04 (Same.trans s5 s6)
      have hres : rnmD d1 d2 = (renF (farS d1) (farS d2) d1.evs (matS d1 d2) 8 [("", "")]).map (List.drop 1) := if_pos heq
      refine gname ?_
      refine ⟨_, rfl, rfl, ?_⟩
      rcases hv with ⟨hv1, rfl⟩ | ⟨l', ts', L', hv1, rfl, hv2, hv3⟩
      · refine ⟨_, rfl, qq _ _ s06 (.inl ⟨?_, rfl⟩) (fun _ z => by cases z)⟩
        rw [hres, hv1]
        rfl
      have hv2 : H6 l' = some (.lst (ts'.map V.ref)) := hv2
      have hk : (L'.drop 1).map (·.1) = d1.evs := by
        have := (renF_sound 8 hv1 (Nat.le_refl _) (Nat.succ_le_succ (Nat.zero_le _)) (List.pairwise_singleton ..) (List.pairwise_singleton ..)).1
        rw [List.map_drop, this]
        rfl
      refine ⟨_, rfl, _, rfl, _, rfl, l', _, rfl, .inl (.inl hv2), fun c nc => ?_⟩
      have s7 := same_upd nc (o := .lst (cutV (ts'.map V.ref) (some (1 : Int)) none))
      have kc : (L2.upd H6 c (.lst (cutV (ts'.map V.ref) (some (1 : Int)) none))) c = some (.lst ((ts'.drop 1).map V.ref)) := by
        rw [upd_same, show (1 : Int) = ((1 : Nat) : Int) from rfl, cut_dropR, List.map_drop]
      revert s7 kc
      generalize L2.upd H6 c (.lst (cutV (ts'.map V.ref) (some (1 : Int)) none)) = H7
      intro s7 kc
      refine ⟨c, ts'.drop 1, kvR V.str (L'.drop 1), rfl, .inl (.inl kc), pairSS_dict ((pairSS_drop hv3).same s7), fun z nz => qq _ _ (Same.trans s06 (Same.trans s7 (same_upd nz))) (.inr ⟨z, L'.drop 1, ?_, rfl, ?_⟩) (fun a e => by cases e; exact (Same.trans s06 s7).free nz)⟩
      · rw [hres, hv1]
        rfl
      · rw [upd_same, merge_ndS (by rw [hk]; exact nd1)]

end
end Pk

set_option Elab.async false
set_option linter.all false
set_option maxRecDepth 100000
set_option maxHeartbeats 4000000
/-! repr of a list whose items are plain data, or dicts of flat things -/
namespace PySem
section
variable {prog : Program} {w : World} {h₀ : Heap} {a : Addr}
theorem showsBy_list {o : Obj} {vs : Array Value} {n : Nat} {xs : List PyData} {bs₀ : List Addr} (h1 : h₀.get? a = some o) (h2 : o.cls = .type "list") (h3 : o.data = .seq vs n) (h4 : ReadsAll h₀ vs.toList xs bs₀) (hs : (PyData.list xs).showable = true) (hsm : PyData.hasDictAll xs = true → sysModules ∉ bs₀)
    (hsz : (PyData.list xs).shown.length ≤ sizeLine) : ∃ T idr, ShowsBy prog w h₀ a (.list xs) T idr := by
  have hz' : (listText (PyData.shownAll xs)).length ≤ sizeLine := by simpa only [PyData.shown] using hsz
  obtain ⟨bs, hb, hk⟩ := ReprAllK.of_readsAll (prog := prog) (w := w) h4 (by simpa [PyData.showable] using hs) hsm (fun t ht => Nat.le_trans (listText_mem_le ht) hz')
  have hna : a ∉ bs := not_mem_of_deeper (.list h1 h2 h3 h4) (by simp only [PyData.depth]; omega) hb
  refine ⟨"list", "list.__repr__", F.slot_list_repr.toG, F.slot_list_str, F.slot_list_format, fun s hk0 => ⟨o, hk0 _ _ h1, h2⟩, fun A E s Q hg hu hk0 hQ => ?_⟩
  simp only [PyData.depth] at hu
  simp only [PyData.shown] at hQ
  obtain ⟨l⟩ := vs
  cases l with
  | nil =>
    have h4' : ReadsAll h₀ [] xs _ := h4
    cases h4'
    simp only [PyData.shownAll, listText_nil] at hQ
    exact call_list_repr_empty ⟨o, hk0 _ _ h1, h2⟩ (hk0 _ _ h1) h3 (hQ s.heap _ _ fun _ _ e => e)
  | cons x l =>
    exact call_list_reprK h1 h2 h3 hna (by simpa using hk.length_eq) (fun i y e => hk.item i y (by simpa using e)) hg (fun b _ => Clear.nil b) hu hk0 hQ hz'
end
end PySem
namespace Pu
open PySem PySem.Spec PyProof.Rows L2
def shF : V → Bool
  | .non | .bl _ | .int _ | .str _ => true
  | _ => false
def dat : V → PyData
  | .bl b => .bool b
  | .int i => .int i
  | .str x => .str x
  | _ => .none
def datK : Key → PyData
  | .inl i => .int i
  | .inr x => .str x
theorem reads_flat {h : Heap} {v : V} {u : Value} (hv : shF v = true) (r : RelV v u) : Reads h u (dat v) [] := by
  cases v with
  | non => cases r; exact .none
  | bl b => cases r; exact .bool b
  | int i => obtain ⟨t, rfl⟩ := r; exact .int i t
  | str x => obtain ⟨t, rfl⟩ := r; exact .str x t
  | _ => cases hv
theorem reads_key {h : Heap} {k : Key} {u : Value} (hk : keyIs k u = true) : Reads h u (datK k) [] := by
  rcases keyIs_shape hk with ⟨i, t, rfl, rfl⟩ | ⟨x, t, rfl, rfl⟩
  · exact .int i t
  · exact .str x t
theorem reads_pairs {P : Program} {w : World} {h : Heap} : ∀ {kvs : List (Key × V)} {va : List (Key × Value)} {es : List DictEntry}, KV kvs va → Pairs (mixKind P w) es va → (∀ p ∈ kvs, shF p.2 = true) →
    ReadsAll h (es.map (·.key)) (kvs.map fun p => datK p.1) [] ∧ ReadsAll h (es.map (·.val)) (kvs.map fun p => dat p.2) []
  | [], _, _, .nil, .nil, _ => ⟨.nil, .nil⟩
  | p :: r, _, _, .cons ⟨e1, e2⟩ ht, .cons k1 k2 k3, hf => by
    obtain ⟨h1, h2⟩ := reads_pairs (h := h) ht k3 fun q hq => hf q (List.mem_cons_of_mem _ hq)
    rw [← e1] at k1
    have f := hf p List.mem_cons_self
    rw [← k2] at e2
    exact ⟨.cons (as := []) (bs := []) (reads_key k1) h1, .cons (as := []) (bs := []) (reads_flat f e2) h2⟩
/-- what is shown of a thing: plain data, or a dict of flat things -/
inductive Sh (K : PySem.W.Frag) (H : Hp) : V → PyData → Prop
  | plain {v : V} {d : PyData} : Dp K H v d → Sh K H v d
  | dct {q : Addr} {kvs : List (Key × V)} : H q = some (.dK kvs) → (∀ p ∈ kvs, shF p.2 = true) → Sh K H (.ref q) (.dict (kvs.map fun p => (datK p.1, dat p.2)))
theorem Sh.same {K : PySem.W.Frag} {H H' : Hp} {v : V} {d : PyData} (h : Sh K H v d) (s : Same H H') (hd : ∀ {v d}, Dp K H v d → Dp K H' v d) : Sh K H' v d := by
  cases h with
  | plain h => exact .plain (hd h)
  | dct h1 h2 => exact .dct (s _ _ h1) h2
def rRepr2 (K : PySem.W.Frag) : List V → Hp → VK → Prop := fun xs H Q => ∃ a u v d, xs = [.ref a] ∧ SqL K H a [.str u, v] ∧ Sh K H v d ∧ d.showable = true ∧ d.depth ≤ 30 ∧ (PyData.list [.str u, d]).shown.length ≤ sizeLine ∧ Q (.str (PyData.list [.str u, d]).shown) H
theorem repr2 {X : Cx} (K : PySem.W.Frag) (hG : X.A.guards = some []) (hu : X.A.units + 64 < cLine) (hK : X.K = K := by rfl) : CallR X (.builtin "repr") (rRepr2 K) := by
  subst hK
  intro pins s σ H xs us Q I r h
  obtain ⟨a, u, v, d, rfl, hq, hv, hs, hdp, hz, q⟩ := h
  obtain ⟨u0, rfl, ru⟩ := vals1 r
  cases ru
  obtain ⟨its, rv, ⟨o, n, ho, hc, _, hd⟩, _⟩ := I.list hq
  have key : ∃ as, ReadsAll s.heap its [.str u, d] as ∧ (PyData.hasDictAll [.str u, d] = true → sysModules ∉ as) := by
    cases rv with
    | cons r1 r2 =>
      cases r2 with
      | cons r2 r3 =>
        cases r3
        obtain ⟨t, rfl⟩ := r1
        cases hv with
        | plain hp =>
          obtain ⟨as, rd⟩ := Dp.reads I d v _ hp r2
          refine ⟨_, .cons (.str u t) (.cons rd .nil), fun z => ?_⟩
          rw [PyData.hasDictAll, PyData.hasDictAll, PyData.hasDictAll, Dp.noDict hp] at z
          simp [PyData.hasDict] at z
        | @dct qa kvs hq2 hf =>
          cases r2
          obtain ⟨_, ya, va, ra, ob, es, ep, e1, e2, e3, _, e5, _⟩ := (show ObjOk X.prog X.w H s.heap qa (.dK kvs) from I.hok qa _ hq2)
          obtain ⟨k1, k2⟩ := reads_pairs (h := s.heap) ra e5 hf
          have rd : Reads s.heap (.ref qa) (.dict (kvs.map fun p => (datK p.1, dat p.2))) (qa :: [] ++ []) := .dict e1 e2.1 e3 (by rw [List.map_map]; exact k1) (by rw [List.map_map]; exact k2)
          refine ⟨_, .cons (.str u t) (.cons rd .nil), fun _ hm => ?_⟩
          simp at hm
          rw [hm] at ya
          simp at ya
  obtain ⟨as, rd, hsm⟩ := key
  have grown : ∀ (h' : Heap) (u' tk : Tok), (∀ b o, s.heap.get? b = some o → h'.get? b = some o) → EP X pins σ Q (.str (PyData.list [.str u, d]).shown u') { s with heap := h', toks := tk } := fun h' u' tk k =>
    ⟨.str (PyData.list [.str u, d]).shown, H, I.turnedL (ch := []) (fun b o _ e => k b o e) (fun _ hb => absurd hb List.not_mem_nil), ⟨u', rfl⟩, q⟩
  obtain ⟨T, idr, S⟩ := showsBy_list (prog := X.prog) (w := X.w) (a := a) ho hc hd rd (by simp [PyData.showable, PyData.showableAll, hs]) hsm hz
  have hdep : (PyData.list [.str u, d]).depth ≤ 31 := by
    simp only [PyData.depth, PyData.depthAll]
    omega
  exact call_repr_slot (by omega) (S.typeIs s fun _ _ e => e) S.slotRepr (S.call X.A.in1 _ s _ hG (by show X.A.units + 1 + _ < cLine; omega) (fun _ _ e => e) fun h' u' tk hk => ⟨_, _, rfl, grown h' u' tk hk⟩)
end Pu

set_option Elab.async false
set_option linter.all false
set_option maxRecDepth 100000
set_option maxHeartbeats 4000000
/-! how long the shows are -/
namespace Pu
open PySem PySem.Spec PyProof.Rows L2
/-- short enough to be shown -/
structure ShOk (D : PyData) : Prop where
  lv : D.leavesShort 13 = true
  bk : D.bulk ≤ 100000
  sh : D.showable = true
  dp : D.depth ≤ 20
structure ShAll (Ds : List PyData) (n : Nat) : Prop where
  lv : PyData.leavesShortAll 13 Ds = true
  bk : PyData.bulkAll Ds ≤ n
  sh : PyData.showableAll Ds = true
  dp : PyData.depthAll Ds ≤ 10
theorem ShAll.nil : ShAll [] 0 := ⟨rfl, Nat.le_refl _, rfl, by decide⟩
theorem ShAll.cons {D : PyData} {Ds : List PyData} {n k : Nat} (h1 : D.leavesShort 13 = true) (h2 : D.bulk + 1 ≤ k) (h3 : D.showable = true) (h4 : D.depth ≤ 10) (h : ShAll Ds n) : ShAll (D :: Ds) (k + n) := by
  refine ⟨?_, ?_, ?_, ?_⟩
  · rw [PyData.leavesShortAll, h1, h.lv]; rfl
  · rw [PyData.bulkAll]; have := h.bk; omega
  · rw [PyData.showableAll, h3, h.sh]; rfl
  · rw [PyData.depthAll]; have := h.dp; omega
theorem ShAll.list {Ds : List PyData} {n : Nat} (h : ShAll Ds n) (hn : n ≤ 100000) : ShOk (.list Ds) := by
  refine ⟨?_, ?_, ?_, ?_⟩
  · rw [PyData.leavesShort]; exact h.lv
  · rw [PyData.bulk]; exact Nat.le_trans h.bk hn
  · rw [PyData.showable]; exact h.sh
  · rw [PyData.depth]; have := h.dp; omega
theorem ShOk.pair {D : PyData} {u : Str} (h : ShOk D) (hu : (PyData.str u).leavesShort 13 = true) (hu2 : u.cps.size ≤ 100) : D.showable = true ∧ D.depth ≤ 30 ∧ (PyData.list [.str u, D]).shown.length ≤ sizeLine := by
  refine ⟨h.sh, by have := h.dp; omega, PyData.shown_fits_bulk (B := 13) (by decide) (by decide) ?_ ?_⟩
  · rw [PyData.leavesShort, PyData.leavesShortAll, PyData.leavesShortAll, PyData.leavesShortAll, hu, h.lv]; rfl
  · rw [PyData.bulk, PyData.bulkAll, PyData.bulkAll, PyData.bulkAll, PyData.bulk]
    have := h.bk
    have : (2 : Nat) ^ 20 = 1048576 := by decide
    omega
def nmS (e : Str) : Prop := (PyData.str e).leavesShort 13 = true ∧ e.cps.size ≤ 20
theorem sh_str {e : Str} (h : nmS e) : ShOk (.str e) := ⟨h.1, by rw [PyData.bulk]; have := h.2; omega, rfl, by rw [PyData.depth]; decide⟩
theorem sh_non : ShOk .none := ⟨rfl, by decide, rfl, by decide⟩
theorem sh_bl {c : Bool} : ShOk (.bool c) := ⟨rfl, by rw [PyData.bulk]; decide, rfl, by rw [PyData.depth]; decide⟩
/-- the items of an odd run: names, None, lists of one name -/
def OddItem (b : Addr) (H : Hp) (x : V) : Prop := (∃ e, x = .str e ∧ nmS e) ∨ x = .non ∨ ∃ g e, x = .ref g ∧ g ≠ b ∧ H g = some (.lst [.str e]) ∧ nmS e
theorem odd_data {K : PySem.W.Frag} {b : Addr} {H : Hp} : ∀ {xs : List V}, (∀ x ∈ xs, OddItem b H x) → ∃ Ds, (∀ H', Same H H' → DpAll K H' xs Ds) ∧ ShAll Ds (40 * xs.length)
  | [], _ => ⟨[], fun _ _ => .nil, .nil⟩
  | x :: r, h => by
    obtain ⟨Ds, h1, h2⟩ := odd_data (K := K) (xs := r) fun y hy => h y (List.mem_cons_of_mem _ hy)
    have hk : ∀ D : PyData, ShAll (D :: Ds) (40 + 40 * r.length) → ShAll (D :: Ds) (40 * (x :: r).length) := fun D hD => by
      rw [List.length_cons, Nat.mul_succ, Nat.add_comm]
      exact hD
    rcases h x List.mem_cons_self with ⟨e, rfl, he⟩ | rfl | ⟨g, e, rfl, _, hg, he⟩
    · exact ⟨_, fun H' s => .cons (.str e) (h1 H' s), hk _ (.cons he.1 (by rw [PyData.bulk]; have := he.2; omega) rfl (by rw [PyData.depth]; decide) h2)⟩
    · exact ⟨_, fun H' s => .cons .non (h1 H' s), hk _ (.cons rfl (by decide) rfl (by decide) h2)⟩
    · have h3 : ShAll [.str e] (30 + 0) := .cons he.1 (by rw [PyData.bulk]; have := he.2; omega) rfl (by rw [PyData.depth]; decide) .nil
      refine ⟨_, fun H' s => .cons (.lst (.inl (.inl (s _ _ hg))) (.cons (.str e) .nil)) (h1 H' s), hk _ (.cons (by rw [PyData.leavesShort]; exact h3.lv) ?_ (by rw [PyData.showable]; exact h3.sh) ?_ h2)⟩
      · rw [PyData.bulk]
        have := h3.bk
        omega
      · rw [PyData.depth, PyData.depthAll, PyData.depthAll, PyData.depth]
        decide
theorem neg_data {es : List Str} (h : ∀ e ∈ es, nmS e) : PyData.leavesShortKv 13 (es.map fun e => (PyData.str e, PyData.int (-1))) = true ∧ PyData.bulkKv (es.map fun e => (PyData.str e, PyData.int (-1))) ≤ 30 * es.length ∧ PyData.showableKv (es.map fun e => (PyData.str e, PyData.int (-1))) = true ∧ PyData.depthKv (es.map fun e => (PyData.str e, PyData.int (-1))) = 0 := by
  induction es with
  | nil => exact ⟨rfl, Nat.zero_le _, rfl, rfl⟩
  | cons x r ih =>
    obtain ⟨h1, h2, h3, h4⟩ := ih fun e he => h e (List.mem_cons_of_mem _ he)
    obtain ⟨k1, k2⟩ := h x List.mem_cons_self
    refine ⟨?_, ?_, ?_, ?_⟩
    · rw [List.map_cons, PyData.leavesShortKv, k1, h1]
      decide +kernel
    · rw [List.map_cons, PyData.bulkKv, List.length_cons, PyData.bulk, PyData.bulk, Nat.mul_succ]
      omega
    · rw [List.map_cons, PyData.showableKv, h3, PyData.showable, PyData.showable]
      decide +kernel
    · rw [List.map_cons, PyData.depthKv, h4]
      simp [PyData.depth]
end Pu

set_option Elab.async false
set_option linter.all false
set_option maxRecDepth 100000
set_option maxHeartbeats 4000000
/-! repr of a list that holds a dict whose values are plain data, or empty dicts: each item by itself -/
namespace PySem
section
variable {prog : Program} {w : World} {h₀ : Heap} {a : Addr}
structure RK (prog : Program) (w : World) (h₀ : Heap) (v : Value) (d : PyData) : Prop where
  rd : ∃ as, Reads h₀ v d as
  rk : d.showable = true → d.shown.length ≤ sizeLine → ∃ bs, ReadAtMost h₀ d.depth bs ∧ ReprK prog w bs h₀ d.depth v d.shown
theorem RK.of_reads {v : Value} {d : PyData} {as : List Addr} (r : Reads h₀ v d as) (hsm : d.hasDict = true → sysModules ∉ as) : RK prog w h₀ v d := ⟨⟨as, r⟩, fun hs hz => ReprK.of_reads r hs hsm hz⟩
inductive RKs (prog : Program) (w : World) (h₀ : Heap) : List Value → List PyData → Prop
  | nil : RKs prog w h₀ [] []
  | cons {v : Value} {d : PyData} {vs : List Value} {ds : List PyData} (h : RK prog w h₀ v d) (t : RKs prog w h₀ vs ds) : RKs prog w h₀ (v :: vs) (d :: ds)
theorem RKs.reads {vs : List Value} {ds : List PyData} (h : RKs prog w h₀ vs ds) : ∃ as, ReadsAll h₀ vs ds as := by
  induction h with
  | nil => exact ⟨_, .nil⟩
  | cons r _ ih =>
    obtain ⟨as, ha⟩ := r.rd
    obtain ⟨bs, hb⟩ := ih
    exact ⟨_, .cons ha hb⟩
theorem RKs.all : ∀ {vs : List Value} {ds : List PyData}, RKs prog w h₀ vs ds → PyData.showableAll ds = true → (∀ t ∈ PyData.shownAll ds, t.length ≤ sizeLine) → ∃ bs, ReadAtMost h₀ (PyData.depthAll ds) bs ∧ ReprAllK prog w bs h₀ (PyData.depthAll ds) vs (PyData.shownAll ds)
  | _, _, .nil, _, _ => ⟨[], (fun _ h => nomatch h), by simp only [PyData.shownAll]; exact .nil⟩
  | _, _, .cons (d := d) (ds := ds) r rs, hs, hz => by
    have hs' : d.showable = true ∧ PyData.showableAll ds = true := by simpa [PyData.showableAll] using hs
    obtain ⟨b1, hb1, k1⟩ := r.rk hs'.1 (hz _ (by simp only [PyData.shownAll]; exact List.mem_cons_self ..))
    obtain ⟨b2, hb2, k2⟩ := RKs.all rs hs'.2 (fun t ht => hz t (by simp only [PyData.shownAll]; exact List.mem_cons_of_mem _ ht))
    refine ⟨b1 ++ b2, fun b hm => ?_, ?_⟩
    · simp only [PyData.depthAll]
      rcases List.mem_append.mp hm with hm | hm
      · obtain ⟨d', as', r', hd'⟩ := hb1 b hm
        exact ⟨d', as', r', Nat.le_trans hd' (Nat.le_max_left _ _)⟩
      · obtain ⟨d', as', r', hd'⟩ := hb2 b hm
        exact ⟨d', as', r', Nat.le_trans hd' (Nat.le_max_right _ _)⟩
    · simp only [PyData.depthAll, PyData.shownAll]
      exact .cons ((k1.more fun b hb => List.mem_append_left _ hb).level_le (Nat.le_max_left _ _)) (k2.more_le (fun b hb => List.mem_append_right _ hb) (Nat.le_max_right _ _))
theorem RK.dict {o : Obj} {es : Array DictEntry} {n : Nat} {kvs : List (PyData × PyData)} (h1 : h₀.get? a = some o) (h2 : o.cls = .type "dict") (h3 : o.data = .dict es n) (h4 : RKs prog w h₀ (es.toList.map (·.key)) (kvs.map (·.1))) (h5 : RKs prog w h₀ (es.toList.map (·.val)) (kvs.map (·.2)))
    (hsys : a ≠ sysModules) : RK prog w h₀ (.ref a) (.dict kvs) := by
  obtain ⟨as, r4⟩ := h4.reads
  obtain ⟨bs, r5⟩ := h5.reads
  have r : Reads h₀ (.ref a) (.dict kvs) _ := .dict h1 h2 h3 r4 r5
  refine ⟨⟨_, r⟩, fun hs hz => ?_⟩
  have hz' : (dictText (PyData.shownKv kvs)).length ≤ sizeLine := by simpa only [PyData.shown] using hz
  obtain ⟨hs1, hs2⟩ := PyData.showableKv_split kvs (by simpa [PyData.showable] using hs)
  obtain ⟨b1, hb1, k1⟩ := h4.all hs1 (fun t ht => let ⟨p, hp, hl⟩ := PyData.shownKv_key_le kvs t ht; Nat.le_trans hl (Nat.le_trans (dictText_mem_le hp) hz'))
  obtain ⟨b2, hb2, k2⟩ := h5.all hs2 (fun t ht => let ⟨p, hp, hl⟩ := PyData.shownKv_val_le kvs t ht; Nat.le_trans hl (Nat.le_trans (dictText_mem_le hp) hz'))
  have hb : ReadAtMost h₀ (PyData.depthKv kvs) (b1 ++ b2) := (hb1.mono (PyData.depthAll_keys_le kvs)).append (hb2.mono (PyData.depthAll_vals_le kvs))
  have hna : a ∉ b1 ++ b2 := not_mem_of_deeper r (by simp only [PyData.depth]; omega) hb
  have hs' : (a == sysModules) = false := beq_eq_false_iff_ne.mpr hsys
  refine ⟨a :: (b1 ++ b2), ReadAtMost.cons r (by simp only [PyData.depth]; omega) hb, ?_⟩
  simp only [PyData.depth, PyData.shown, PyData.shownKv_eq]
  exact ReprK.dict h1 h2 h3 hs' hna (ReprEntriesK.of_two es.toList _ _
    (k1.more_le (fun b hb => List.mem_append_left _ hb) (PyData.depthAll_keys_le kvs)) (k2.more_le (fun b hb => List.mem_append_right _ hb) (PyData.depthAll_vals_le kvs)))
theorem showsBy_listRK {o : Obj} {vs : Array Value} {n : Nat} {xs : List PyData} (h1 : h₀.get? a = some o) (h2 : o.cls = .type "list") (h3 : o.data = .seq vs n) (h4 : RKs prog w h₀ vs.toList xs) (hs : (PyData.list xs).showable = true)
    (hsz : (PyData.list xs).shown.length ≤ sizeLine) : ∃ T idr, ShowsBy prog w h₀ a (.list xs) T idr := by
  have hz' : (listText (PyData.shownAll xs)).length ≤ sizeLine := by simpa only [PyData.shown] using hsz
  obtain ⟨bs, hb, hk⟩ := h4.all (by simpa [PyData.showable] using hs) (fun t ht => Nat.le_trans (listText_mem_le ht) hz')
  obtain ⟨as, r4⟩ := h4.reads
  have hna : a ∉ bs := not_mem_of_deeper (.list h1 h2 h3 r4) (by simp only [PyData.depth]; omega) hb
  refine ⟨"list", "list.__repr__", F.slot_list_repr.toG, F.slot_list_str, F.slot_list_format, fun s hk0 => ⟨o, hk0 _ _ h1, h2⟩, fun A E s Q hg hu hk0 hQ => ?_⟩
  simp only [PyData.depth] at hu
  simp only [PyData.shown] at hQ
  obtain ⟨l⟩ := vs
  cases l with
  | nil =>
    have h4' : ReadsAll h₀ [] xs _ := r4
    cases h4'
    simp only [PyData.shownAll, listText_nil] at hQ
    exact call_list_repr_empty ⟨o, hk0 _ _ h1, h2⟩ (hk0 _ _ h1) h3 (hQ s.heap _ _ fun _ _ e => e)
  | cons x l =>
    exact call_list_reprK h1 h2 h3 hna (by simpa using hk.length_eq) (fun i y e => hk.item i y (by simpa using e)) hg (fun b _ => Clear.nil b) hu hk0 hQ hz'
end
end PySem
namespace Pu
open PySem PySem.Spec PyProof.Rows L2
/-- a value of a dict: plain data, or an empty dict -/
def Sv (K : PySem.W.Frag) (H : Hp) (v : V) (D : PyData) : Prop := Dp K H v D ∨ ∃ g, v = .ref g ∧ H g = some (.dK []) ∧ D = .dict []
abbrev Svs (K : PySem.W.Frag) (H : Hp) : List (Key × V) → List (PyData × PyData) → Prop := Paired fun p kd => kd.1 = datK p.1 ∧ Sv K H p.2 kd.2
inductive Sh3 (K : PySem.W.Frag) (H : Hp) : V → PyData → Prop
  | plain {v : V} {d : PyData} : Dp K H v d → Sh3 K H v d
  | dct {q : Addr} {kvs : List (Key × V)} {L : List (PyData × PyData)} : H q = some (.dK kvs) → Svs K H kvs L → Sh3 K H (.ref q) (.dict L)
section
variable {X : Cx} {pins : List (Addr × Obj)} {σ : L2.St} {H : Hp} {s : Shared}
theorem rk_dp (I : Inv X pins σ H s) {v : V} {d : PyData} {u : Value} (h : Dp X.K H v d) (r : RelV v u) : RK X.prog X.w s.heap u d := by
  obtain ⟨as, rd⟩ := Dp.reads I d v _ h r
  exact .of_reads rd (fun z => by rw [Dp.noDict h] at z; cases z)
theorem rk_sv (I : Inv X pins σ H s) {v : V} {d : PyData} {u : Value} (h : Sv X.K H v d) (r : RelV v u) : RK X.prog X.w s.heap u d := by
  rcases h with h | ⟨g, rfl, hg, rfl⟩
  · exact rk_dp I h r
  · cases r
    obtain ⟨_, ya, va, ra, ob, es, ep, e1, e2, e3, _, e5, _⟩ := (show ObjOk X.prog X.w H s.heap g (.dK []) from I.hok g _ hg)
    cases ra
    have hes : es.toList = [] := by
      cases h : es.toList with
      | nil => rfl
      | cons x l =>
        rw [h] at e5
        cases e5
    exact RK.dict e1 e2.1 e3 (by rw [hes]; exact .nil) (by rw [hes]; exact .nil) (fun z => by rw [z] at ya; simp at ya)
theorem rks_pairs (I : Inv X pins σ H s) : ∀ {kvs : List (Key × V)} {va : List (Key × Value)} {es : List DictEntry} {L : List (PyData × PyData)}, KV kvs va → Pairs (mixKind X.prog X.w) es va → Svs X.K H kvs L →
    RKs X.prog X.w s.heap (es.map (·.key)) (L.map (·.1)) ∧ RKs X.prog X.w s.heap (es.map (·.val)) (L.map (·.2))
  | [], _, _, _, .nil, .nil, .nil => ⟨.nil, .nil⟩
  | p :: r, _, _, _, .cons ⟨e1, e2⟩ ht, .cons k1 k2 k3, .cons hf hr => by
    obtain ⟨h1, h2⟩ := rks_pairs I ht k3 hr
    rw [← e1] at k1
    rw [← k2] at e2
    refine ⟨.cons ?_ h1, .cons (rk_sv I hf.2 e2) h2⟩
    have z := hf.1
    show RK _ _ _ _ (Prod.fst _)
    rw [z]
    exact .of_reads (reads_key k1) (fun _ => List.not_mem_nil)
end
def rRepr3 (K : PySem.W.Frag) : List V → Hp → VK → Prop := fun xs H Q => ∃ a u v d, xs = [.ref a] ∧ SqL K H a [.str u, v] ∧ Sh3 K H v d ∧ d.showable = true ∧ d.depth ≤ 30 ∧ (PyData.list [.str u, d]).shown.length ≤ sizeLine ∧ Q (.str (PyData.list [.str u, d]).shown) H
theorem repr3 {X : Cx} (K : PySem.W.Frag) (hG : X.A.guards = some []) (hu : X.A.units + 64 < cLine) (hK : X.K = K := by rfl) : CallR X (.builtin "repr") (rRepr3 K) := by
  subst hK
  intro pins s σ H xs us Q I r h
  obtain ⟨a, u, v, d, rfl, hq, hv, hs, hdp, hz, q⟩ := h
  obtain ⟨u0, rfl, ru⟩ := vals1 r
  cases ru
  obtain ⟨its, rv, ⟨o, n, ho, hc, _, hd⟩, _⟩ := I.list hq
  have key : RKs X.prog X.w s.heap its [.str u, d] := by
    cases rv with
    | cons r1 r2 =>
      cases r2 with
      | cons r2 r3 =>
        cases r3
        obtain ⟨t, rfl⟩ := r1
        refine .cons (.of_reads (.str u t) (fun z => by simp [PyData.hasDict] at z)) (.cons ?_ .nil)
        cases hv with
        | plain hp => exact rk_dp I hp r2
        | @dct qa kvs L hq2 hf =>
          cases r2
          obtain ⟨_, ya, va, ra, ob, es, ep, e1, e2, e3, _, e5, _⟩ := (show ObjOk X.prog X.w H s.heap qa (.dK kvs) from I.hok qa _ hq2)
          obtain ⟨k1, k2⟩ := rks_pairs I ra e5 hf
          exact RK.dict e1 e2.1 e3 k1 k2 (fun z => by rw [z] at ya; simp at ya)
  have grown : ∀ (h' : Heap) (u' tk : Tok), (∀ b o, s.heap.get? b = some o → h'.get? b = some o) → EP X pins σ Q (.str (PyData.list [.str u, d]).shown u') { s with heap := h', toks := tk } := fun h' u' tk k =>
    ⟨.str (PyData.list [.str u, d]).shown, H, I.turnedL (ch := []) (fun b o _ e => k b o e) (fun _ hb => absurd hb List.not_mem_nil), ⟨u', rfl⟩, q⟩
  obtain ⟨T, idr, S⟩ := showsBy_listRK (prog := X.prog) (w := X.w) (a := a) ho hc hd key (by simp [PyData.showable, PyData.showableAll, hs]) hz
  have hdep : (PyData.list [.str u, d]).depth ≤ 31 := by
    simp only [PyData.depth, PyData.depthAll]
    omega
  exact call_repr_slot (by omega) (S.typeIs s fun _ _ e => e) S.slotRepr (S.call X.A.in1 _ s _ hG (by show X.A.units + 1 + _ < cLine; omega) (fun _ _ e => e) fun h' u' tk hk => ⟨_, _, rfl, grown h' u' tk hk⟩)
end Pu

set_option Elab.async false
set_option linter.all false
set_option maxRecDepth 100000
set_option maxHeartbeats 4000000
/-! how long the shows of dicts with nested values and long integers are -/
namespace Pu
open PySem PySem.Spec PyProof.Rows L2
structure Lf (D : PyData) : Prop where
  lv : D.leavesShort 41 = true
  bk : D.bulk ≤ 20
  sh : D.showable = true
  dp : D.depth ≤ 5
structure ShD (D : PyData) : Prop where
  lv : D.leavesShort 41 = true
  bk : D.bulk ≤ 1000
  sh : D.showable = true
  dp : D.depth ≤ 20
theorem Lf.shd {D : PyData} (h : Lf D) : ShD D := ⟨h.lv, Nat.le_trans h.bk (by decide), h.sh, Nat.le_trans h.dp (by decide)⟩
theorem kv_data : ∀ {L : List (PyData × PyData)}, (∀ kd ∈ L, Lf kd.1 ∧ Lf kd.2) → PyData.leavesShortKv 41 L = true ∧ PyData.bulkKv L ≤ 60 * L.length ∧ PyData.showableKv L = true ∧ PyData.depthKv L ≤ 5
  | [], _ => ⟨rfl, Nat.zero_le _, rfl, by decide⟩
  | kd :: r, h => by
    obtain ⟨h1, h2, h3, h4⟩ := kv_data (L := r) fun kd hk => h kd (List.mem_cons_of_mem _ hk)
    obtain ⟨k, v⟩ := kd
    obtain ⟨k1, k2⟩ := h _ List.mem_cons_self
    have b1 : k.bulk ≤ 20 := k1.bk
    have b2 : v.bulk ≤ 20 := k2.bk
    have d1 : k.depth ≤ 5 := k1.dp
    have d2 : v.depth ≤ 5 := k2.dp
    refine ⟨?_, ?_, ?_, ?_⟩
    · rw [PyData.leavesShortKv, k1.lv, k2.lv, h1]; rfl
    · rw [PyData.bulkKv, List.length_cons]
      omega
    · rw [PyData.showableKv, k1.sh, k2.sh, h3]; rfl
    · rw [PyData.depthKv]
      omega
theorem ShD.dict {L : List (PyData × PyData)} (h : ∀ kd ∈ L, Lf kd.1 ∧ Lf kd.2) (hl : L.length ≤ 16) : ShD (.dict L) := by
  obtain ⟨h1, h2, h3, h4⟩ := kv_data h
  exact ⟨by rw [PyData.leavesShort]; exact h1, by rw [PyData.bulk]; omega, by rw [PyData.showable]; exact h3, by rw [PyData.depth]; omega⟩
theorem ShD.pair {D : PyData} {u : Str} (h : ShD D) (hu : (PyData.str u).leavesShort 41 = true) (hu2 : u.cps.size ≤ 100) : D.showable = true ∧ D.depth ≤ 30 ∧ (PyData.list [.str u, D]).shown.length ≤ sizeLine := by
  refine ⟨h.sh, by have := h.dp; omega, ?_⟩
  have h1 := PyData.shown_le_bulk 41 (by decide) (.list [.str u, D]) (by rw [PyData.leavesShort, PyData.leavesShortAll, PyData.leavesShortAll, PyData.leavesShortAll, hu, h.lv]; rfl)
  have h2 : (PyData.list [.str u, D]).bulk ≤ 2000 := by
    rw [PyData.bulk, PyData.bulkAll, PyData.bulkAll, PyData.bulkAll, PyData.bulk]
    have := h.bk
    omega
  refine Nat.le_trans h1 ?_
  rw [sizeLine_eq]
  omega
theorem lf_int {i : Int} (h : i.natAbs < 2 ^ 120) : Lf (.int i) := by
  have h40 : i.natAbs < 10 ^ 40 := Nat.lt_trans h (by decide)
  refine ⟨?_, by rw [PyData.bulk]; decide, ?_, by rw [PyData.depth]; decide⟩
  · rw [PyData.leavesShort, PyData.shown_int]
    exact decide_eq_true (int_len h40)
  · rw [PyData.showable]
    have h1 : i.natAbs.log2 < 120 := by
      by_cases z : i.natAbs = 0
      · rw [z]
        decide +kernel
      · exact (Nat.log2_lt z).mpr h
    exact decide_eq_true (Nat.lt_trans h1 (by decide))
theorem lf_str {e : Str} (h : nmS e) (h2 : e.cps.size ≤ 18) : Lf (.str e) := ⟨by have := h.1; rw [PyData.leavesShort] at this ⊢; exact this, by rw [PyData.bulk]; omega, rfl, by rw [PyData.depth]; decide⟩
theorem lf_none : Lf .none := ⟨rfl, by decide, rfl, by decide⟩
theorem lf_bool {c : Bool} : Lf (.bool c) := ⟨rfl, by rw [PyData.bulk]; decide, rfl, by rw [PyData.depth]; decide⟩
theorem lf_tup : Lf (.tuple [.int 1]) := ⟨by decide +kernel, by decide +kernel, by decide +kernel, by decide +kernel⟩
theorem lf_lst : Lf (.list []) := ⟨by decide +kernel, by decide +kernel, by decide +kernel, by decide +kernel⟩
theorem lf_dct : Lf (.dict []) := ⟨by decide +kernel, by decide +kernel, by decide +kernel, by decide +kernel⟩
end Pu

set_option Elab.async false
set_option linter.all false
set_option maxRecDepth 100000
set_option maxHeartbeats 4000000
/-! shows of lists of strings, and of lists of such -/
namespace Pu
open PySem PySem.Spec PyProof.Rows L2
theorem ShOk.shw {D : PyData} (h : ShOk D) : D.showable = true ∧ D.depth ≤ 40 ∧ D.shown.length ≤ sizeLine := by
  refine ⟨h.sh, by have := h.dp; omega, PyData.shown_fits_bulk (B := 13) (by decide) (by decide) h.lv ?_⟩
  have := h.bk
  have : (2 : Nat) ^ 20 = 1048576 := by decide
  omega
def strsD (es : List Str) : PyData := .list (es.map PyData.str)
def rowsD (rs : List (List Str)) : PyData := .list (rs.map strsD)
theorem strs_sh : ∀ {es : List Str}, (∀ e ∈ es, nmS e) → ShAll (es.map PyData.str) (30 * es.length)
  | [], _ => ShAll.nil
  | e :: r, h => by
    rw [List.length_cons, Nat.mul_succ, Nat.add_comm]
    have he := h e (List.mem_cons_self ..)
    exact .cons he.1 (by rw [PyData.bulk]; have := he.2; omega) rfl (by rw [PyData.depth]; decide) (strs_sh fun x hx => h x (List.mem_cons_of_mem _ hx))
theorem rows_sh : ∀ {rs : List (List Str)}, (∀ r ∈ rs, r.length ≤ 100 ∧ ∀ e ∈ r, nmS e) → ShAll (rs.map strsD) (4000 * rs.length)
  | [], _ => ShAll.nil
  | r :: rs, h => by
    rw [List.length_cons, Nat.mul_succ, Nat.add_comm]
    obtain ⟨h1, h2⟩ := h r (List.mem_cons_self ..)
    have h3 := strs_sh h2
    refine .cons (D := strsD r) (by unfold strsD; rw [PyData.leavesShort]; exact h3.lv) ?_ (by unfold strsD; rw [PyData.showable]; exact h3.sh) ?_ (rows_sh fun x hx => h x (List.mem_cons_of_mem _ hx))
    · unfold strsD
      rw [PyData.bulk]
      have := h3.bk
      omega
    · unfold strsD
      rw [PyData.depth]
      have : PyData.depthAll (r.map PyData.str) ≤ 1 := by
        clear h3 h1 h
        induction r with
        | nil => exact Nat.zero_le _
        | cons x r ih =>
          rw [List.map_cons, PyData.depthAll, PyData.depth]
          have := ih fun y hy => h2 y (List.mem_cons_of_mem _ hy)
          omega
      omega
theorem strsD_ok {es : List Str} (h : ∀ e ∈ es, nmS e) (hl : es.length ≤ 1000) : (strsD es).showable = true ∧ (strsD es).depth ≤ 40 ∧ (strsD es).shown.length ≤ sizeLine := (ShAll.list (strs_sh h) (by omega)).shw
theorem rowsD_ok {rs : List (List Str)} (h : ∀ r ∈ rs, r.length ≤ 100 ∧ ∀ e ∈ r, nmS e) (hl : rs.length ≤ 20) : (rowsD rs).showable = true ∧ (rowsD rs).depth ≤ 40 ∧ (rowsD rs).shown.length ≤ sizeLine := (ShAll.list (rows_sh h) (by omega)).shw
theorem strs_all {K : PySem.W.Frag} {H : Hp} : ∀ {es : List Str}, DpAll K H (es.map V.str) (es.map PyData.str)
  | [] => .nil
  | e :: r => .cons (.str e) strs_all
theorem strs_dp {K : PySem.W.Frag} {H : Hp} {a : Addr} {es : List Str} (h : H a = some (.lst (es.map V.str))) : Dp K H (.ref a) (strsD es) := .lst (.inl (.inl h)) strs_all
theorem rows_all {K : PySem.W.Frag} {H : Hp} {as : List Addr} {rs : List (List Str)} (h : Paired (fun (a : Addr) (r : List Str) => H a = some (.lst (r.map V.str))) as rs) : DpAll K H (as.map V.ref) (rs.map strsD) := by
  induction h with
  | nil => exact .nil
  | cons r _ ih => exact .cons (strs_dp r) ih
theorem rows_dp {K : PySem.W.Frag} {H : Hp} {a : Addr} {as : List Addr} {rs : List (List Str)} (h : H a = some (.lst (as.map V.ref))) (hG : Paired (fun (a : Addr) (r : List Str) => H a = some (.lst (r.map V.str))) as rs) : Dp K H (.ref a) (rowsD rs) := .lst (.inl (.inl h)) (rows_all hG)
end Pu

set_option Elab.async false
set_option linter.all false
set_option maxRecDepth 100000
set_option maxHeartbeats 4000000
/-! shows of sums; how great sums are -/
namespace Pu
open PySem PySem.Spec PyProof.Rows L2
theorem ShD.shw {D : PyData} (h : ShD D) : D.showable = true ∧ D.depth ≤ 40 ∧ D.shown.length ≤ sizeLine := by
  refine ⟨h.sh, by have := h.dp; omega, ?_⟩
  have h1 := PyData.shown_le_bulk 41 (by decide) D h.lv
  have h2 := h.bk
  refine Nat.le_trans h1 ?_
  rw [sizeLine_eq]
  omega
def optD : Option Int → PyData
  | none => .none
  | some v => .int v
theorem optD_ok {o : Option Int} (h : ∀ v, o = some v → 0 ≤ v ∧ v ≤ 10 ^ 36) : (optD o).showable = true ∧ (optD o).depth ≤ 40 ∧ (optD o).shown.length ≤ sizeLine := by
  cases o with
  | none => exact lf_none.shd.shw
  | some v =>
    obtain ⟨h1, h2⟩ := h v rfl
    refine (lf_int (i := v) ?_).shd.shw
    have : (10 : Int) ^ 36 < 2 ^ 120 := by decide
    omega
def BdR (k : SR) (m : Int) : Prop := ∀ l v, getR k l = some v → v ≤ m
theorem BdR.step {k : SR} {m M : Int} (h : BdR k m) {r : LRow} (hr : r.2.2 ≤ M) (hM : 0 ≤ M) : BdR (bfStep k r) (m + M) := fun l v hv => by
  rcases bfStep_get k r l with ⟨a, ha, _, _, h1⟩ | h1
  · rw [h1] at hv
    cases hv
    have := h _ _ ha
    omega
  · rw [h1] at hv
    have := h _ _ hv
    omega
theorem BdR.turn {M : Int} (hM : 0 ≤ M) : ∀ {rs : List LRow} {k : SR} {m : Int}, BdR k m → (∀ r ∈ rs, r.2.2 ≤ M) → BdR (bfTurn rs k) (m + rs.length * M)
  | [], k, m, h, _ => by
    have e : m + (([] : List LRow).length : Int) * M = m := by simp
    rw [e]
    exact h
  | r :: rs, k, m, h, hr => by
    have := BdR.turn hM (rs := rs) (h.step (hr r (List.mem_cons_self ..)) hM) fun x hx => hr x (List.mem_cons_of_mem _ hx)
    have e : m + ((r :: rs).length : Int) * M = m + M + (rs.length : Int) * M := by
      rw [List.length_cons, Int.natCast_add, Int.add_mul]
      omega
    rw [e]
    exact this
theorem BdR.all {M : Int} (hM : 0 ≤ M) {rs : List LRow} (hr : ∀ r ∈ rs, r.2.2 ≤ M) {f : Str} : ∀ n, BdR (bfN rs n [(f, 0)]) ((n * rs.length : Nat) * M)
  | 0 => fun l v hv => by
    have hv : (if f = l then some (0 : Int) else none) = some v := hv
    split at hv
    · cases hv
      rw [Nat.zero_mul]
      omega
    · cases hv
  | n + 1 => by
    have := (BdR.all hM hr (f := f) n).turn hM hr
    have e : (((n + 1) * rs.length : Nat) : Int) * M = ((n * rs.length : Nat) : Int) * M + (rs.length : Int) * M := by
      rw [Nat.succ_mul, Int.natCast_add, Int.add_mul]
    rw [e]
    exact this
end Pu

set_option Elab.async false
set_option linter.all false
set_option maxRecDepth 100000
set_option maxHeartbeats 4000000
namespace Pk
open PySem PySem.Spec PyProof.Rows L2 Pu
abbrev s_law_is : Stmt := topS 57
theorem sc_law_is : FnScope ["_law_turned", "_law_leads_here", "_law_left", "_law_one", "_law_far_here", "_law_other"] ["_law_turned", "_law_leads_here", "_law_left"] (defScope s_law_is) := ⟨rfl, rfl, rfl, by decide +kernel, rfl, by decide +kernel, by decide +kernel⟩

section
variable {P : Program} {w : World} {K : PySem.W.Frag} {mg : Str → Option Value} {base : Heap}
theorem dget_same {H H' : Hp} {a : Addr} {k : V} {o : Option V} (h : DGet H a k o) (s : Same H H') : DGet H' a k o := by
  rcases h with ⟨kvs, k', h, r⟩ | ⟨kvs, k', b, h, r1, r2, r3⟩
  · rcases h with h | ⟨o, h⟩
    · exact .inl ⟨kvs, k', .inl (s _ _ h), r⟩
    · exact .inl ⟨kvs, k', .inr ⟨o, s _ _ h⟩, r⟩
  · rcases h with h | ⟨o, h⟩
    · exact .inr ⟨kvs, k', b, .inl (s _ _ h), r1, s _ _ r2, r3⟩
    · exact .inr ⟨kvs, k', b, .inr ⟨o, s _ _ h⟩, r1, s _ _ r2, r3⟩
/-! ### whether leads are the same under new names -/
/-- under the new names z, as the law asks it -/
def isB (d d2 : PlanD) (z : List (Str × Str)) : Bool := z.all fun c => decide (farS d "" c.1 = farS d2 "" c.2) && (z.all fun k => decide (farS d c.1 k.1 = farS d2 c.2 k.2))
theorem SumsX.lockS {H : Hp} {q t : Addr} {d : PlanD} {z : List (Str × Str)} (h : SumsX H q d) (ht : H t = some (.dK (kvR V.str z))) (hz : z ≠ []) {o : HO} : SumsX (L2.upd H t o) q d := by
  obtain ⟨sa, h1, h2⟩ := h.ex
  obtain ⟨c, r, rfl⟩ := List.exists_cons_of_ne_nil hz
  have n1 : q ≠ t := fun e => by
    rw [e, ht] at h1
    have h1 : kvR V.str (c :: r) = outV (("" : Str) :: d.evs) sa := by injection h1 with h1; injection h1
    have h1 : ((Sum.inr c.1 : Key), V.str c.2) :: kvR V.str r = (.inr "", .ref (sa "")) :: outV d.evs sa := h1
    have := (Prod.mk.inj (List.cons.inj h1).1).2
    cases this
  refine ⟨sa, by rw [upd_ne n1]; exact h1, fun f hf => ?_⟩
  have h3 := h2 f hf
  rw [upd_ne]
  · exact h3
  · intro e
    rw [e, ht] at h3
    have h3 : kvR V.str (c :: r) = kvR V.int (far d f) := by injection h3 with h3; injection h3
    cases hr : far d f with
    | nil => rw [hr] at h3; cases h3
    | cons k l =>
      rw [hr] at h3
      have h3 : ((Sum.inr c.1 : Key), V.str c.2) :: kvR V.str r = (.inr k.1, .int k.2) :: kvR V.int l := h3
      have := (Prod.mk.inj (List.cons.inj h3).1).2
      cases this
def spLawIs : Sp := fun vs H Q _ => ∃ (t q q' : Addr) (d d2 : PlanD) (z : List (Str × Str)), vs = [.ref t, .ref q, .ref q'] ∧ H t = some (.dK (kvR V.str z)) ∧ (z.map (·.1)).Nodup ∧ z.length ≤ 8 ∧ SumsX H q d ∧ SumsX H q' d2 ∧ (∀ c ∈ z, c.1 ∈ d.evs ∧ c.2 ∈ d2.evs) ∧ ∀ H', Same H H' → Q (.bl (isB d d2 z)) H'
theorem ok_law_is {f : Addr} {fd : FuncData} (F : Fun K "_law_is" "_law_is" s_law_is f fd) (T : Txt mg) : FnOk P w K mg base CX0 1 f fd ["_law_turned", "_law_leads_here", "_law_left"] spLawIs := by
  have nd := sc_law_is.nd
  refine F.ok sc_law_is (fun vs H Q E h => ?_) (fun cdv A outer s H vs Q E hr h => ?_)
  · obtain ⟨_, _, _, _, _, _, rfl, _⟩ := h
    rfl
  · obtain ⟨t, q, q', d, d2, z, rfl, ht, hnd, h8, hq, hq', hin, qq⟩ := h
    have hu := hu_of hr
    refine ⟨_, (pss_cons (ps_lock (ps_for PassesOwn.never rfl (pi_keys (pv 0)) (pg_name (i := 3) nd rfl (Or.inr rfl))
      (pss_cons (ps_if (pt_cmpR op_ne (pe_dget1 hu (pe_dget hu (pv 1) pe_str (fun _ _ => rfl)) (pv 3) (by constructor <;> intros <;> rfl)) (pe_dget1 hu (pe_dget hu (pv 2) pe_str (fun _ _ => rfl)) (pe_dget hu (pv 0) (pv 3) (fun _ _ => rfl)) (by constructor <;> intros <;> rfl)) (by rfl))
      (pss_one (ps_ret pe_bl)) pss_nil)
      (pss_cons (ps_set (i := 4) nd rfl (Or.inr rfl) (pe_dget hu (pv 2) (pe_dget hu (pv 0) (pv 3) (fun _ _ => rfl)) (fun _ _ => rfl)))
      (pss_one (ps_if (pt_cmpR (op_neB K hr) (pe_lc (own := [("_law_other", 5)]) (g := gName 5) rfl nd (pi_keys (pv 0)) (blkOk_by (N := ["_law_turned", "_law_leads_here", "_law_left", "_law_one", "_law_far_here", "_law_other"]) (sc := defScope s_law_is) (by decide +kernel)) (fun _ _ _ _ _ => pg_name (i := 5) nd rfl (Or.inl rfl)) (fun _ _ _ _ _ => pts_one (pt_cmpR op_ne (pe_dget1 hu (pe_dget hu (pv 1) (pv 3) (fun _ _ => rfl)) (pv 5) (by constructor <;> intros <;> rfl)) (pe_dget1 hu (pv 4) (pe_dget hu (pv 0) (pv 5) (fun _ _ => rfl)) (by constructor <;> intros <;> rfl)) (by rfl))) (fun _ _ _ _ _ => (pv 5))) (pe_lst pa_nil) (by rfl))
      (pss_one (ps_ret pe_bl)) pss_nil))))))
      (pss_one (ps_ret pe_bl))), ?_⟩
    refine seq_st ?_
    refine ⟨t, _, ht, True.intro, fun od => ?_⟩
    have hL : (L2.upd H t (.frz od (.dK (kvR V.str z)))) t = some (.frz od (.dK (kvR V.str z))) := upd_same
    have unl : ∀ {H'}, Same (L2.upd H t (.frz od (.dK (kvR V.str z)))) H' → Same H (L2.upd H' t (.dK (kvR V.str z))) := fun s => unlock_same ht s
    have hqL : z ≠ [] → SumsX (L2.upd H t (.frz od (.dK (kvR V.str z)))) q d := fun hz => hq.lockS ht hz
    have hqL' : z ≠ [] → SumsX (L2.upd H t (.frz od (.dK (kvR V.str z)))) q' d2 := fun hz => hq'.lockS ht hz
    revert hL unl hqL hqL'
    generalize L2.upd H t (.frz od (.dK (kvR V.str z))) = H1
    intro hL unl hqL hqL'
    have zlen : (kvR V.str z).length = z.length := List.length_map ..
    have dgt : ∀ {H' : Hp} {c : Str × Str}, Same H1 H' → c ∈ z → DGet H' t (.str c.1) (some (.str c.2)) := fun {H'} {c} s hc => .inl ⟨kvR V.str z, .inr c.1, .inr ⟨od, s _ _ hL⟩, rfl, by rw [valV_kvR, getR_nd hnd hc]; rfl⟩
    refine ⟨_, rfl, t, od, rfl, .inl ⟨_, hL, ?_⟩⟩
    refine for_it (walk_keys (d := t) (o := od) (kvs := kvR V.str z)) (fun i σ H' => Same H1 H' ∧ (z.take i).all (fun c => decide (farS d "" c.1 = farS d2 "" c.2) && (z.all fun k => decide (farS d c.1 k.1 = farS d2 c.2 k.2))) = true ∧ ∃ v3 v4, σ = [some (.ref t), some (.ref q), some (.ref q'), v3, v4, none]) ⟨Same.refl _, rfl, _, _, rfl⟩ (fun i σ H' _ pv => pv.1 _ _ hL) (fun i x σ H2' H2 hi pv yv => ?_) (fun σ H2 pv => ?_)
    · obtain ⟨rfl, k, v, hk, rfl⟩ := yv
      obtain ⟨s2, hall, v3, v4, rfl⟩ := pv
      rw [zlen] at hi
      have hk2 : (kvR V.str z)[i]? = some (.inr z[i].1, .str z[i].2) := by
        unfold kvR
        rw [List.getElem?_map, List.getElem?_eq_getElem hi]
        rfl
      rw [hk2] at hk
      cases hk
      have hc := List.getElem_mem hi
      have hz : z ≠ [] := List.ne_nil_of_mem hc
      have hget : z[i]? = some z[i] := List.getElem?_eq_getElem hi
      have htk : z.take (i + 1) = z.take i ++ [z[i]] := by rw [List.take_add_one, hget]; rfl
      revert hc hget htk
      generalize z[i] = c
      intro hc hget htk
      obtain ⟨c1, c2⟩ := hin c hc
      have bad : isB d d2 z = false → Q (.bl false) (L2.upd H2 t (.dK (kvR V.str z))) := fun e => by
        have := qq _ (unl s2)
        rw [e] at this
        exact this
      obtain ⟨a1, k1, r11, r12, r13⟩ := ((hqL hz).same s2).at.row2 (List.mem_cons_self ..)
      obtain ⟨a2, k2, r21, r22, r23⟩ := ((hqL' hz).same s2).at.row2 (List.mem_cons_self ..)
      obtain ⟨a3, k3, r31, r32, r33⟩ := ((hqL hz).same s2).at.row2 (List.mem_cons_of_mem _ c1)
      obtain ⟨a4, k4, r41, r42, r43⟩ := ((hqL' hz).same s2).at.row2 (List.mem_cons_of_mem _ c2)
      refine gname (seq_st ?_)
      refine ⟨_, rfl, q, _, rfl, r11, a1, rfl, .inl ⟨_, .inl r12⟩, _, rfl, _, r13 c.1, ?_⟩
      refine ⟨_, rfl, q', _, rfl, r21, a2, rfl, .inl ⟨_, .inl r22⟩, _, rfl, _, rfl, t, _, rfl, dgt s2 hc, _, r23 c.2, ?_⟩
      have hone : isB d d2 z = true → farS d "" c.1 = farS d2 "" c.2 ∧ ∀ k ∈ z, farS d c.1 k.1 = farS d2 c.2 k.2 := fun y => by
        have := List.all_eq_true.mp y c hc
        rw [Bool.and_eq_true, List.all_eq_true] at this
        exact ⟨of_decide_eq_true this.1, fun k hk => of_decide_eq_true (this.2 k hk)⟩
      refine ⟨optV_scal, _, rfl, ?_⟩
      rw [optV_ne]
      refine ite2 (fun h => ?_) (fun h => ?_)
      · refine ⟨s2 _ _ hL, bad (Bool.eq_false_iff.mpr fun y => ?_)⟩
        have h := (hone y).1
        have h' : getR (far d "") c.1 = getR (far d2 "") c.2 := h
        rename_i hd
        rw [decide_eq_true h'] at hd
        cases hd
      have h1 : farS d "" c.1 = farS d2 "" c.2 := by
        show getR (far d "") c.1 = getR (far d2 "") c.2
        cases hd : decide (getR (far d "") c.1 = getR (far d2 "") c.2) with
        | true => exact of_decide_eq_true hd
        | false => rw [hd] at h; exact absurd rfl h
      refine next_of ?_
      dsimp only
      refine seq_asg ?_
      refine ⟨_, rfl, _, rfl, _, rfl, t, _, rfl, dgt s2 hc, q', _, rfl, r41, ?_⟩
      refine gname ?_
      refine ⟨_, rfl, t, od, rfl, .inl ⟨_, s2 _ _ hL, fun D nD => ?_⟩⟩
      refine lc_it (walk_keys (d := t) (o := od) (kvs := kvR V.str z)) (fun j H' => Same H2 H' ∧ H' D = some (.lst ((((z.take j).filter fun k => !decide (farS d c.1 k.1 = farS d2 c.2 k.2)).map (·.1)).map V.str))) ⟨same_upd nD, upd_same⟩ (fun j H' _ pv => pv.1 _ _ (s2 _ _ hL)) (fun j x H3' H3 hj pv yv => ?_) (fun H3 pv => ?_)
      · obtain ⟨rfl, k, v, hk, rfl⟩ := yv
        obtain ⟨s3, hD3⟩ := pv
        rw [zlen] at hj
        have hk3 : (kvR V.str z)[j]? = some (.inr z[j].1, .str z[j].2) := by
          unfold kvR
          rw [List.getElem?_map, List.getElem?_eq_getElem hj]
          rfl
        rw [hk3] at hk
        cases hk
        have hb := List.getElem_mem hj
        have hget2 : z[j]? = some z[j] := List.getElem?_eq_getElem hj
        have htk2 : z.take (j + 1) = z.take j ++ [z[j]] := by rw [List.take_add_one, hget2]; rfl
        have hlen : (((z.take j).filter fun k => !decide (farS d c.1 k.1 = farS d2 c.2 k.2)).map (·.1)).length ≤ 8 := by
          rw [List.length_map]
          refine Nat.le_trans (List.length_filter_le ..) ?_
          rw [List.length_take]
          exact Nat.le_trans (Nat.min_le_right _ _) h8
        revert hb hget2 htk2
        generalize z[j] = b
        intro hb hget2 htk2
        have s23 := Same.trans s2 s3
        refine ⟨rfl, _, rfl, _, rfl, q, _, rfl, dget_same r31 s3, a3, rfl, .inl ⟨_, .inl (s3 _ _ r32)⟩, _, rfl, _, dget_same (r33 b.1) s3, ?_⟩
        refine ⟨_, rfl, a4, rfl, .inl ⟨_, .inl (s3 _ _ r42)⟩, _, rfl, _, rfl, t, _, rfl, dgt s23 hb, _, dget_same (r43 b.2) s3, optV_scal, _, rfl, ?_⟩
        rw [optV_ne]
        refine ite2 (fun h => ?_) (fun h => ?_)
        · have h : (!decide (farS d c.1 b.1 = farS d2 c.2 b.2)) = true := h
          refine ⟨_, rfl, _, hD3, ?_, same_put nD s3, ?_⟩
          · rw [List.length_map]
            exact Nat.lt_of_le_of_lt hlen (Nat.lt_of_lt_of_le (by decide) (sz 10))
          · rw [upd_same, htk2, List.filter_append, List.filter_cons (xs := []), if_pos h, List.filter_nil, List.map_append, List.map_append]
            rfl
        · have h : ¬ (!decide (farS d c.1 b.1 = farS d2 c.2 b.2)) = true := h
          refine ⟨s3, ?_⟩
          rw [htk2, List.filter_append, List.filter_cons (xs := []), if_neg h, List.filter_nil, List.append_nil]
          exact hD3
      obtain ⟨s3, hD3⟩ := pv
      rw [zlen, List.take_length] at hD3
      refine ⟨sz 0, fun L nL => ?_⟩
      have s4 := Same.trans s3 (same_upd nL (o := .lst []))
      refine ⟨1, _, by decide, nil_eq (same_upd nL _ _ hD3) upd_same, _, rfl, ?_⟩
      have s24 := Same.trans s2 s4
      rw [if_pos rfl]
      have key : (((z.filter fun k => !decide (farS d c.1 k.1 = farS d2 c.2 k.2)).map (·.1)) = []) ↔ ∀ k ∈ z, farS d c.1 k.1 = farS d2 c.2 k.2 := by
        rw [List.map_eq_nil_iff, List.filter_eq_nil_iff]
        refine forall_congr' fun k => forall_congr' fun _ => ?_
        rw [Bool.not_eq_true, Bool.not_eq_false', decide_eq_true_iff]
      refine ite2 (fun h => ?_) (fun h => ?_)
      · refine ⟨s24 _ _ hL, ?_⟩
        have hf : isB d d2 z = false := Bool.eq_false_iff.mpr fun y => by
          rw [decide_eq_true (key.mpr (hone y).2)] at h
          cases h
        have := qq _ (unl s24)
        rw [hf] at this
        exact this
      · have h2 : ∀ k ∈ z, farS d c.1 k.1 = farS d2 c.2 k.2 := key.mp (by
          cases hd : decide (((z.filter fun k => !decide (farS d c.1 k.1 = farS d2 c.2 k.2)).map (·.1)) = []) with
          | true => exact of_decide_eq_true hd
          | false => rw [hd] at h; exact absurd rfl h)
        refine ⟨s24, ?_, _, _, rfl⟩
        rw [htk, List.all_append, hall, Bool.true_and, List.all_cons, List.all_nil, Bool.and_true, decide_eq_true h1, Bool.true_and]
        exact List.all_eq_true.mpr fun k hk => decide_eq_true (h2 k hk)
    · obtain ⟨s2, hall, v3, v4, rfl⟩ := pv
      rw [zlen, List.take_length] at hall
      have := qq _ (unl s2)
      rw [show isB d d2 z = true from hall] at this
      exact ⟨s2 _ _ hL, this⟩

end
end Pk

set_option Elab.async false
set_option linter.all false
set_option maxRecDepth 100000
set_option maxHeartbeats 4000000
namespace Pk
open PySem PySem.Spec PyProof.Rows L2 Pu
abbrev s_law_orders : Stmt := topS 58
theorem sc_law_orders : FnScope ["_law_some", "_law_found", "_law_one", "_law_more", "_law_row", "_law_at"] ["_law_some"] (defScope s_law_orders) := ⟨rfl, rfl, rfl, by decide +kernel, rfl, by decide +kernel, by decide +kernel⟩

section
variable {P : Program} {w : World} {K : PySem.W.Frag} {mg : Str → Option Value} {base : Heap}
/-! ### all orders of names -/
def RowsL (H : Hp) (as : List Addr) (rows : List (List Str)) : Prop := Paired (fun a r => H a = some (.lst (r.map V.str))) as rows
def putAt (x : Str) (row : List Str) : List (List Str) := (List.range (row.length + 1)).map fun i => row.take i ++ x :: row.drop i
theorem RowsL.keep {H H' : Hp} {as : List Addr} {rows : List (List Str)} (h : RowsL H as rows) (k : ∀ a ∈ as, ∀ xs, H a = some (.lst xs) → H' a = some (.lst xs)) : RowsL H' as rows := by
  unfold RowsL at *
  induction h with
  | nil => exact .nil
  | cons r _ ih => exact .cons (k _ (List.mem_cons_self ..) _ r) (ih fun a ha => k a (List.mem_cons_of_mem _ ha))
theorem RowsL.same {H H' : Hp} {as : List Addr} {rows : List (List Str)} (h : RowsL H as rows) (s : Same H H') : RowsL H' as rows := h.keep fun _ _ _ q => s _ _ q
theorem RowsL.app {H : Hp} {as bs : List Addr} {rs ss : List (List Str)} (h : RowsL H as rs) (h2 : RowsL H bs ss) : RowsL H (as ++ bs) (rs ++ ss) := paired_app2 h h2
theorem RowsL.get {H : Hp} {as : List Addr} {rows : List (List Str)} (h : RowsL H as rows) : ∀ {i : Nat} {x : V}, (as.map V.ref)[i]? = some x → ∃ a r, x = .ref a ∧ a ∈ as ∧ rows[i]? = some r ∧ H a = some (.lst (r.map V.str)) := by
  unfold RowsL at h
  induction h with
  | nil => intro i x e; simp at e
  | @cons a t as bs r _ ih =>
    intro i x e
    cases i with
    | zero =>
      have e : some (V.ref a) = some x := e
      cases e
      exact ⟨a, t, rfl, List.mem_cons_self .., rfl, r⟩
    | succ i =>
      obtain ⟨a, r, h1, h2, h3, h4⟩ := ih (i := i) (x := x) e
      exact ⟨a, r, h1, List.mem_cons_of_mem _ h2, h3, h4⟩
def fac : Nat → Nat
  | 0 => 1
  | n + 1 => fac n * (n + 1)
def OrdOk (es : List Str) (i : Nat) (rows : List (List Str)) : Prop := (∀ r ∈ rows, r.Perm (es.take i)) ∧ rows.length ≤ fac i
theorem putAt_len (x : Str) (row : List Str) : (putAt x row).length = row.length + 1 := by
  unfold putAt
  rw [List.length_map, List.length_range]
theorem ord_len {x : Str} {n : Nat} : ∀ {rows : List (List Str)}, (∀ r ∈ rows, r.length = n) → (rows.flatMap (putAt x)).length = rows.length * (n + 1)
  | [], _ => (Nat.zero_mul _).symm
  | r :: rows, h => by
    rw [List.flatMap_cons, List.length_append, putAt_len, h r (List.mem_cons_self ..), ord_len fun r' h' => h r' (List.mem_cons_of_mem _ h'), List.length_cons, Nat.succ_mul, Nat.add_comm]
theorem ord_step {es : List Str} {i : Nat} (hi : i < es.length) {rows : List (List Str)} (h : OrdOk es i rows) : OrdOk es (i + 1) (rows.flatMap (putAt es[i])) := by
  refine ⟨fun r hr => ?_, ?_⟩
  · obtain ⟨row, h1, h2⟩ := List.mem_flatMap.mp hr
    obtain ⟨k, _, rfl⟩ := List.mem_map.mp h2
    have e1 := h.1 row h1
    rw [List.take_add_one, List.getElem?_eq_getElem hi]
    refine List.perm_middle.trans ?_
    rw [List.take_append_drop]
    refine (e1.cons _).trans ?_
    exact (List.perm_append_singleton es[i] (es.take i)).symm
  · rw [ord_len (n := i) fun r hr => by rw [(h.1 r hr).length_eq, List.length_take]; omega]
    exact Nat.mul_le_mul_right _ h.2
def spOrders : Sp := fun vs H Q _ => ∃ (a : Addr) (es : List Str), vs = [.ref a] ∧ H a = some (.lst (es.map V.str)) ∧ es.length ≤ 4 ∧
  ∀ q as rows H', Same H H' → H' q = some (.lst (as.map V.ref)) → RowsL H' as rows → (∀ r ∈ rows, r.Perm es) → rows.length ≤ 24 → Q (.ref q) H'
theorem ok_law_orders {f : Addr} {fd : FuncData} (F : Fun K "_law_orders" "_law_orders" s_law_orders f fd) (T : Txt mg) : FnOk P w K mg base CX0 1 f fd ["_law_some"] spOrders := by
  have nd := sc_law_orders.nd
  refine F.ok sc_law_orders (fun vs H Q E h => ?_) (fun cdv A outer s H vs Q E hr h => ?_)
  · obtain ⟨_, _, rfl, _⟩ := h
    rfl
  · obtain ⟨a, es, rfl, ha, h4, qq⟩ := h
    have hu := hu_of hr
    refine ⟨_, (pss_cons (ps_set (i := 1) nd rfl (Or.inl rfl) (pe_lst (pa_cons (pe_lst pa_nil) pa_nil)))
      (pss_cons (ps_for PassesOwn.never rfl (pi_list (pv 0)) (pg_name (i := 2) nd rfl (Or.inr rfl))
      (pss_cons (ps_set (i := 3) nd rfl (Or.inl rfl) (pe_lst pa_nil))
      (pss_cons (ps_for PassesOwn.never rfl (pi_list (pv 1)) (pg_name (i := 4) nd rfl (Or.inr rfl))
      (pss_one (ps_expr (pe_bm PySem.F.plainAttrs_list PySem.F.slot_list_extend PySem.F.type_list_extend mt_extend (pv 3) (pa_cons (pe_lc (own := [("_law_at", 5)]) (g := gName 5) (tt := tYes) rfl nd (pi_range1 rfl T.m_range (pa_cons (pe_op oAdd (pe_callB (lenK K) (by rfl) T.m_len PySem.boot_len (pa_cons (pv 4) pa_nil)) pe_int) pa_nil)) (blkOk_by (N := ["_law_some", "_law_found", "_law_one", "_law_more", "_law_row", "_law_at"]) (sc := defScope s_law_orders) (by decide +kernel)) (fun _ _ _ _ _ => pg_name (i := 5) nd rfl (Or.inl rfl)) (fun _ _ _ _ _ => pts_nil) (fun _ _ _ _ _ => (pe_op oAdd (pe_op oAdd (pe_slice (slL K) (pv 4) po_none (po_some (pv 5))) (pe_lst (pa_cons (pv 2) pa_nil))) (pe_slice (slL K) (pv 4) (po_some (pv 5)) po_none)))) pa_nil)))))
      (pss_one (ps_set (i := 1) nd rfl (Or.inl rfl) (pv 3))))))
      (pss_one (ps_ret (pv 1))))), ?_⟩
    have f24 : ∀ i ≤ es.length, fac i ≤ 24 := fun i hi => by
      have : i = 0 ∨ i = 1 ∨ i = 2 ∨ i = 3 ∨ i = 4 := by omega
      rcases this with rfl | rfl | rfl | rfl | rfl <;> decide
    refine seq_asg ?_
    refine ⟨sz 0, fun r0 nr0 => ⟨sz 1, fun l0 nl0 => ?_⟩⟩
    have s0 := Same.trans (same_upd nr0 (o := .lst [])) (same_upd nl0 (o := .lst [.ref r0]))
    have k0 : (upd (upd H r0 (.lst [])) l0 (.lst [.ref r0])) r0 = some (.lst (([] : List Str).map V.str)) := same_upd nl0 (o := .lst [.ref r0]) _ _ upd_same
    have k1 : (upd (upd H r0 (.lst [])) l0 (.lst [.ref r0])) l0 = some (.lst ([r0].map V.ref)) := upd_same
    revert s0 k0 k1
    generalize upd (upd H r0 (.lst [])) l0 (.lst [.ref r0]) = H1
    intro s1 k0 k1
    refine gname (seq_st ?_)
    refine ⟨_, rfl, a, rfl, ⟨_, .inl (.inl (s1 _ _ ha))⟩, ?_⟩
    refine for_it (walk_list (K := K) (a := a) (xs := es.map V.str)) (fun i σ H' => Same H H' ∧ ∃ r as rows v2 v3 v4, H' r = some (.lst (as.map V.ref)) ∧ RowsL H' as rows ∧ OrdOk es i rows ∧ σ = [some (.ref a), some (.ref r), v2, v3, v4, none]) ⟨s1, l0, [r0], [[]], _, _, _, k1, .cons k0 .nil, ⟨fun r hr => by rw [List.mem_singleton.mp hr]; exact .nil, Nat.le_refl _⟩, rfl⟩ (fun i σ H' _ pv => .inl (.inl (pv.1 _ _ ha))) (fun i x σ H2' H2 hi pv yv => ?_) (fun σ H2 pv => ?_)
    · obtain ⟨rfl, hx⟩ := yv
      obtain ⟨s2, r, as, rows, v2, v3, v4, hr2, hR2, hO, rfl⟩ := pv
      rw [List.length_map] at hi
      rw [List.getElem?_map, List.getElem?_eq_getElem hi] at hx
      cases hx
      have hO' := ord_step hi hO
      have rl : ∀ row ∈ rows, row.length = i := fun row h => by rw [(hO.1 row h).length_eq, List.length_take]; omega
      have f1 := f24 (i + 1) hi
      revert hO' f1
      generalize es[i] = x
      intro hO' f1
      refine gname (seq_asg ?_)
      refine ⟨sz 0, fun L nL => ?_⟩
      have sL := same_upd nL (o := .lst [])
      have hLr : L ≠ r := fun z => by rw [z, hr2] at nL; cases nL
      refine gname (seq_st ?_)
      refine ⟨_, rfl, r, rfl, ⟨_, .inl (.inl (sL _ _ hr2))⟩, ?_⟩
      refine for_it (walk_list (K := K) (a := r) (xs := as.map V.ref)) (fun j σ H' => Same H2 H' ∧ ∃ us v4, H' L = some (.lst (us.map V.ref)) ∧ RowsL H' us ((rows.take j).flatMap (putAt x)) ∧ (∀ u ∈ us, u ≠ L) ∧ σ = [some (.ref a), some (.ref r), some (.str x), some (.ref L), v4, none]) ⟨sL, [], _, upd_same, .nil, fun u hu => absurd hu List.not_mem_nil, rfl⟩ (fun j σ H' _ pv => .inl (.inl (pv.1 _ _ hr2))) (fun j y σ H3' H3 hj pv yv => ?_) (fun σ H3 pv => ?_)
      · obtain ⟨rfl, hx⟩ := yv
        obtain ⟨s3, us, v4, hL3, hU3, hUL, rfl⟩ := pv
        obtain ⟨b, row, rfl, hbm, hrow, hb⟩ := (hR2.same s3).get hx
        have hl := rl row (List.mem_of_getElem? hrow)
        refine gname ?_
        refine ⟨_, rfl, .inl ⟨rfl, _, .inl (.inl hL3)⟩, ?_⟩
        refine ⟨_, rfl, .inl ⟨b, _, rfl, .inl (.inl (.inl hb)), .inl ⟨_, _, rfl, rfl, _, rfl, ?_, ?_, fun D nD => ?_⟩⟩⟩
        · rw [List.length_map]; omega
        · rw [List.length_map]; omega
        rw [show (((row.map V.str).length : Nat) + 1 : Int).toNat = row.length + 1 from by rw [List.length_map]; omega]
        refine lc_it (walk_range (lo := 0) (n := row.length + 1)) (fun k H' => Same H3 H' ∧ ∃ ws, H' D = some (.lst (ws.map V.ref)) ∧ RowsL H' ws ((List.range k).map fun i => row.take i ++ x :: row.drop i) ∧ ws.length = k ∧ ∀ w ∈ ws, w ≠ L ∧ w ≠ D) ⟨same_upd nD, [], upd_same, .nil, rfl, fun w hw => absurd hw List.not_mem_nil⟩ (fun k H' _ pv => True.intro) (fun k y H4' H4 hk pv yv => ?_) (fun H4 pv => ?_)
        · obtain ⟨s4, ws, hD4, hW4, hwl, hwn⟩ := pv
          obtain ⟨rfl, rfl⟩ := yv
          have hb4 := s4 _ _ hb
          have hL4 := s4 _ _ hL3
          refine ⟨rfl, _, rfl, _, rfl, _, rfl, b, _, rfl, .inl (.inl hb4), fun q1 n1 => ?_⟩
          have ek : (0 + (k : Int)) = ((k : Nat) : Int) := Int.zero_add _
          have t1 : cutV (row.map V.str) none (some (0 + (k : Int))) = (row.take k).map V.str := by rw [ek, cut_takeU, List.map_take]
          have t2 : cutV (row.map V.str) (some (0 + (k : Int))) none = (row.drop k).map V.str := by rw [ek, cut_dropR, List.map_drop]
          rw [t1]
          have s41 := same_upd n1 (o := .lst ((row.take k).map V.str))
          have k1 : (upd H4 q1 (.lst ((row.take k).map V.str))) q1 = some (.lst ((row.take k).map V.str)) := upd_same
          revert s41 k1
          generalize upd H4 q1 (.lst ((row.take k).map V.str)) = H5
          intro s45 k1
          refine ⟨_, rfl, sz 1, fun q2 n2 => ?_⟩
          have s56 := same_upd n2 (o := .lst [.str x])
          refine .inr (.inr ⟨q1, q2, _, _, rfl, rfl, s56 _ _ k1, upd_same, ?_, fun q3 n3 => ?_⟩)
          · rw [List.length_map, List.length_take]
            exact Nat.le_trans (by show min k row.length + 1 ≤ 100; omega) (sz 100)
          have s57 := Same.trans s56 (same_upd n3 (o := .lst ((row.take k).map V.str ++ [.str x])))
          have k3 : (upd (upd H5 q2 (.lst [.str x])) q3 (.lst ((row.take k).map V.str ++ [.str x]))) q3 = some (.lst ((row.take k).map V.str ++ [.str x])) := upd_same
          revert s57 k3
          generalize upd (upd H5 q2 (.lst [.str x])) q3 (.lst ((row.take k).map V.str ++ [.str x])) = H7
          intro s57 k3
          have s47 := Same.trans s45 s57
          refine ⟨_, rfl, _, rfl, _, rfl, b, _, rfl, .inl (.inl (s47 _ _ hb4)), fun q4 n4 => ?_⟩
          rw [t2]
          have s78 := same_upd n4 (o := .lst ((row.drop k).map V.str))
          refine .inr (.inr ⟨q3, q4, _, _, rfl, rfl, s78 _ _ k3, upd_same, ?_, fun q5 n5 => ?_⟩)
          · rw [List.length_append, List.length_map, List.length_map, List.length_take, List.length_drop]
            exact Nat.le_trans (by show min k row.length + 1 + _ ≤ 100; omega) (sz 100)
          have s49 := Same.trans s47 (Same.trans s78 (same_upd n5 (o := .lst ((row.take k).map V.str ++ [.str x] ++ (row.drop k).map V.str))))
          have k5 : (upd (upd H7 q4 (.lst ((row.drop k).map V.str))) q5 (.lst ((row.take k).map V.str ++ [.str x] ++ (row.drop k).map V.str))) q5 = some (.lst ((row.take k ++ x :: row.drop k).map V.str)) := by
            rw [upd_same, List.map_append, List.map_cons, List.append_assoc]
            rfl
          have n59 : q5 ≠ L := fun z => by
            have := s78 _ _ (s47 _ _ hL4)
            rw [z, this] at n5
            cases n5
          have n5D : q5 ≠ D := fun z => by
            have := s78 _ _ (s47 _ _ hD4)
            rw [z, this] at n5
            cases n5
          revert s49 k5
          generalize upd (upd H7 q4 (.lst ((row.drop k).map V.str))) q5 (.lst ((row.take k).map V.str ++ [.str x] ++ (row.drop k).map V.str)) = H9
          intro s49 k5
          have hD9 := s49 _ _ hD4
          refine ⟨_, hD9, ?_, same_put nD (Same.trans s4 s49), ws ++ [q5], by rw [upd_same, List.map_append]; rfl, ?_, by rw [List.length_append, hwl]; rfl, fun w hw => ?_⟩
          · rw [List.length_map, hwl]
            exact Nat.lt_of_lt_of_le (by omega : k < 100) (sz 100)
          · rw [List.range_succ, List.map_append]
            exact RowsL.app ((hW4.same s49).keep fun w hw xs h => by rw [upd_ne (hwn w hw).2]; exact h) (.cons (by rw [upd_ne n5D]; exact k5) .nil)
          · rcases List.mem_append.mp hw with h | h
            · exact hwn w h
            · rw [List.mem_singleton.mp h]
              exact ⟨n59, n5D⟩
        · obtain ⟨s4, ws, hD4, hW4, hwl, hwn⟩ := pv
          have hL4 := s4 _ _ hL3
          have hU4 := hU3.same s4
          have hstep : (rows.take (j + 1)).flatMap (putAt x) = (rows.take j).flatMap (putAt x) ++ putAt x row := by
            rw [List.take_add_one, hrow, List.flatMap_append]
            exact congrArg (_ ++ ·) (List.append_nil _)
          have hub : us.length + ws.length ≤ 24 := by
            have e1 : us.length + ws.length = ((rows.take (j + 1)).flatMap (putAt x)).length := by rw [hstep, List.length_append, putAt_len, ← Paired.length hU3, hwl]
            have e2 : ((rows.take (j + 1)).flatMap (putAt x)).length ≤ (rows.flatMap (putAt x)).length := by
              conv => rhs; rw [← List.take_append_drop (j + 1) rows, List.flatMap_append, List.length_append]
              exact Nat.le_add_right ..
            rw [e1]
            exact Nat.le_trans e2 (Nat.le_trans hO'.2 f1)
          refine ⟨L, D, _, _, rfl, rfl, hL4, hD4, ?_, ?_⟩
          · rw [List.length_map, List.length_map]
            exact Nat.le_trans (by omega : _ ≤ 100) (sz 100)
          have hkU : RowsL (upd H4 L (.lst (us.map V.ref ++ ws.map V.ref))) us ((rows.take j).flatMap (putAt x)) := hU4.keep fun u hu xs h => by rw [upd_ne (hUL u hu)]; exact h
          have hkW : RowsL (upd H4 L (.lst (us.map V.ref ++ ws.map V.ref))) ws (putAt x row) := hW4.keep fun u hu xs h => by rw [upd_ne (hwn u hu).1]; exact h
          refine ⟨same_put nL (Same.trans s3 s4), us ++ ws, _, by rw [upd_same, List.map_append], ?_, fun u hu => ?_, rfl⟩
          · rw [hstep]
            exact hkU.app hkW
          · rcases List.mem_append.mp hu with h | h
            · exact hUL u h
            · exact (hwn u h).1
      · obtain ⟨s3, us, v4, hL3, hU3, hUL, rfl⟩ := pv
        have hlen : (as.map V.ref).length = rows.length := by rw [List.length_map, Paired.length hR2]
        rw [hlen, List.take_length] at hU3
        refine ⟨_, rfl, ?_⟩
        exact ⟨Same.trans s2 s3, L, us, _, _, _, _, hL3, hU3, hO', rfl⟩
    · obtain ⟨s2, r, as, rows, v2, v3, v4, hr2, hR2, hO, rfl⟩ := pv
      rw [List.length_map] at hO
      have e := f24 _ (Nat.le_refl es.length)
      have o1 := hO.1
      rw [List.take_length] at o1
      exact ⟨_, rfl, qq r as rows H2 s2 hr2 hR2 o1 (Nat.le_trans hO.2 e)⟩

end
end Pk

set_option Elab.async false
set_option linter.all false
set_option maxRecDepth 100000
set_option maxHeartbeats 4000000
namespace Pk
open PySem PySem.Spec PyProof.Rows L2 Pu
abbrev s_law_renamed : Stmt := topS 55
theorem sc_law_renamed : FnScope ["_law_model_here", "_law_turned", "_law_marks", "_law_cords", "_law_one", "_law_other", "_law_lag_here", "_law_event"] ["_law_model_here", "_law_turned", "_law_marks"] (defScope s_law_renamed) := ⟨rfl, rfl, rfl, by decide +kernel, rfl, by decide +kernel, by decide +kernel⟩

section
variable {P : Program} {w : World} {K : PySem.W.Frag} {mg : Str → Option Value} {base : Heap}
/-! ### a model that shares some events with another one: names exchanged -/
abbrev SS := List (Str × Str)
def trn (z : SS) (e : Str) : Str := (getR z e).getD ""
theorem trn_cons {x y : Str} {z : SS} {e : Str} : trn ((x, y) :: z) e = if x = e then y else trn z e := by
  unfold trn
  have : getR ((x, y) :: z) e = if x = e then some y else getR z e := rfl
  rw [this]
  split <;> rfl
theorem trn_map : ∀ {es ns : List Str}, es.Nodup → es.length ≤ ns.length → es.map (trn (es.zip ns)) = ns.take es.length
  | [], _, _, _ => rfl
  | _ :: _, [], _, h => absurd h (by rw [List.length_nil, List.length_cons]; omega)
  | x :: es, y :: ns, nd, h => by
    rw [List.nodup_cons] at nd
    rw [List.length_cons, List.length_cons] at h
    rw [List.zip_cons_cons, List.map_cons, List.length_cons, List.take_succ_cons, trn_cons, if_pos rfl, ← trn_map nd.2 (Nat.le_of_succ_le_succ h)]
    refine congrArg (y :: ·) (List.map_congr_left fun e he => ?_)
    rw [trn_cons, if_neg (show ¬ x = e from fun z => nd.1 (by rw [z]; exact he))]
theorem inj_on {α β : Type} {f : α → β} : ∀ {l : List α}, (l.map f).Nodup → ∀ {a b : α}, a ∈ l → b ∈ l → f a = f b → a = b
  | [], _, a, _, ha, _, _ => absurd ha List.not_mem_nil
  | x :: l, nd, a, b, ha, hb, h => by
    rw [List.map_cons, List.nodup_cons] at nd
    rcases List.mem_cons.mp ha with e1 | ha1 <;> rcases List.mem_cons.mp hb with e2 | hb1
    · rw [e1, e2]
    · rw [e1] at h
      exact absurd (by rw [h]; exact List.mem_map_of_mem hb1) nd.1
    · rw [e2] at h
      exact absurd (by rw [← h]; exact List.mem_map_of_mem ha1) nd.1
    · exact inj_on nd.2 ha1 hb1 h
theorem nd_map {α β : Type} {f : α → β} : ∀ {l : List α}, l.Nodup → (∀ a ∈ l, ∀ b ∈ l, f a = f b → a = b) → (l.map f).Nodup
  | [], _, _ => List.nodup_nil
  | x :: l, nd, h => by
    rw [List.nodup_cons] at nd
    rw [List.map_cons, List.nodup_cons]
    refine ⟨fun hm => ?_, nd_map nd.2 fun a ha b hb => h a (List.mem_cons_of_mem _ ha) b (List.mem_cons_of_mem _ hb)⟩
    obtain ⟨a, ha, e⟩ := List.mem_map.mp hm
    exact nd.1 (h a (List.mem_cons_of_mem _ ha) x (List.mem_cons_self ..) e ▸ ha)
def trnD (z : SS) (d : PlanD) : PlanD := ⟨d.evs.map (trn z), d.ties.map fun t => (trn z t.1, trn z t.2.1, t.2.2), d.caps.map fun c => (trn z c.1, c.2)⟩
theorem trnD_ok {d : PlanD} (ok : PlanOk d) {ns : List Str} (hl : d.evs.length ≤ ns.length) (nd : ns.Nodup) (nm : ∀ y ∈ ns, nameOk y = true) : PlanOk (trnD (d.evs.zip ns) d) := by
  have em := trn_map ok.evs.nd hl
  have ndm : (d.evs.map (trn (d.evs.zip ns))).Nodup := by rw [em]; exact nd.sublist (List.take_sublist ..)
  have inj : ∀ {a b}, a ∈ d.evs → b ∈ d.evs → trn (d.evs.zip ns) a = trn (d.evs.zip ns) b → a = b := fun ha hb h => inj_on ndm ha hb h
  have mm : ∀ {a}, a ∈ d.evs → trn (d.evs.zip ns) a ∈ d.evs.map (trn (d.evs.zip ns)) := fun ha => List.mem_map_of_mem ha
  refine ⟨⟨?_, ?_, fun e he => ?_, ndm⟩, ?_, fun t ht => ?_, fun c hc => ?_, ?_, ?_⟩
  · show 1 ≤ (d.evs.map _).length
    rw [List.length_map]; exact ok.evs.lo
  · show (d.evs.map _).length ≤ 8
    rw [List.length_map]; exact ok.evs.hi
  · have he : e ∈ d.evs.map (trn (d.evs.zip ns)) := he
    rw [em] at he
    exact nm e (List.mem_of_mem_take he)
  · show (d.ties.map _).length ≤ 60
    rw [List.length_map]; exact ok.tl
  · obtain ⟨t, ht0, rfl⟩ := List.mem_map.mp ht
    obtain ⟨h1, h2, h3⟩ := ok.tin t ht0
    exact ⟨mm h1, mm h2, h3⟩
  · obtain ⟨c, hc0, rfl⟩ := List.mem_map.mp hc
    obtain ⟨h1, h2⟩ := ok.cin c hc0
    exact ⟨mm h1, h2⟩
  · show ((d.caps.map fun c : Str × Int => (trn (d.evs.zip ns) c.1, c.2)).map (·.1)).Nodup
    rw [List.map_map]
    have e : d.caps.map ((fun x : Str × Int => x.1) ∘ fun c => (trn (d.evs.zip ns) c.1, c.2)) = (d.caps.map (·.1)).map (trn (d.evs.zip ns)) := by
      rw [List.map_map]
      rfl
    rw [e]
    refine nd_map ok.cnd fun a ha b hb h => ?_
    obtain ⟨c, hc, rfl⟩ := List.mem_map.mp ha
    obtain ⟨c', hc', rfl⟩ := List.mem_map.mp hb
    exact inj (ok.cin c hc).1 (ok.cin c' hc').1 h
  · obtain ⟨ρ, hρ⟩ := ok.up
    have back : ∀ {a}, a ∈ d.evs → (d.evs.find? fun e => decide (trn (d.evs.zip ns) e = trn (d.evs.zip ns) a)) = some a := fun {a} ha => by
      cases hf : d.evs.find? fun e => decide (trn (d.evs.zip ns) e = trn (d.evs.zip ns) a) with
      | none =>
        have := List.find?_eq_none.mp hf a ha
        exact absurd (decide_eq_true rfl) this
      | some b =>
        have hb := List.mem_of_find?_eq_some hf
        have he := List.find?_some hf
        rw [inj hb ha (of_decide_eq_true he)]
    refine ⟨fun y => ρ ((d.evs.find? fun e => decide (trn (d.evs.zip ns) e = y)).getD ""), fun t ht h0 => ?_⟩
    obtain ⟨t, ht0, rfl⟩ := List.mem_map.mp ht
    obtain ⟨h1, h2, _⟩ := ok.tin t ht0
    show ρ ((d.evs.find? fun e => decide (trn (d.evs.zip ns) e = trn (d.evs.zip ns) t.1)).getD "") < ρ ((d.evs.find? fun e => decide (trn (d.evs.zip ns) e = trn (d.evs.zip ns) t.2.1)).getD "")
    rw [back h1, back h2]
    exact hρ t ht0 h0
theorem mergeS_nd {L : SS} (nd : (L.map (·.1)).Nodup) : mergeK [] (kvR V.str L) = kvR V.str L := by
  rw [mergeK_nd (kvs := kvR V.str L) (acc := [])]
  · rfl
  · rw [List.nil_append]
    unfold kvR
    rw [List.map_map]
    unfold List.Nodup at nd ⊢
    rw [List.pairwise_map] at nd ⊢
    exact nd.imp fun h z => h (Sum.inr.inj z)
theorem zipS_kvR (es ns : List Str) : (es.map fun e => (Sum.inr e : Key)).zip (ns.map V.str) = kvR V.str (es.zip ns) := by
  unfold kvR
  rw [List.zip_map]
  rfl
theorem trn_get : ∀ {es ns : List Str} {e : Str}, es.length ≤ ns.length → e ∈ es → getR (es.zip ns) e = some (trn (es.zip ns) e)
  | [], _, _, _, h => absurd h List.not_mem_nil
  | _ :: _, [], _, h, _ => absurd h (by rw [List.length_nil, List.length_cons]; omega)
  | x :: es, y :: ns, e, h, he => by
    rw [List.length_cons, List.length_cons] at h
    rw [List.zip_cons_cons, trn_cons]
    have : getR ((x, y) :: es.zip ns) e = if x = e then some y else getR (es.zip ns) e := rfl
    rw [this]
    by_cases z : x = e
    · rw [if_pos z, if_pos z]
    · rw [if_neg z, if_neg z]
      rcases List.mem_cons.mp he with h1 | h1
      · exact absurd h1.symm z
      · exact trn_get (Nat.le_of_succ_le_succ h) h1
theorem kvR_keys (rs : SR) : (kvR V.int rs).map (·.1) = (rs.map (·.1)).map Sum.inr := by
  unfold kvR
  rw [List.map_map, List.map_map]
  rfl
/-! ### dicts of integers made of pairs -/
def PairN (H : Hp) (ts : List Addr) (L : SR) : Prop := Paired (fun t c => H t = some (.tup [.str c.1, .int c.2])) ts L
theorem PairN.keep {H H' : Hp} {ts : List Addr} {L : SR} (h : PairN H ts L) (k : ∀ a xs, H a = some (.tup xs) → H' a = some (.tup xs)) : PairN H' ts L := by
  unfold PairN at *
  induction h with
  | nil => exact .nil
  | cons r _ ih => exact .cons (k _ _ r) ih
theorem PairN.snoc {H : Hp} {ts : List Addr} {L : SR} {t : Addr} {c : Str × Int} (h : PairN H ts L) (h1 : H t = some (.tup [.str c.1, .int c.2])) : PairN H (ts ++ [t]) (L ++ [c]) := by
  unfold PairN at *
  induction h with
  | nil => exact .cons h1 .nil
  | cons r _ ih => exact .cons r ih
theorem PairN.kvs {H : Hp} {ts : List Addr} {L : SR} (h : PairN H ts L) : Paired (fun (p : Addr) (kv : Key × V) => SqT K H p [kV kv.1, kv.2]) ts (kvR V.int L) := by
  unfold PairN at h
  induction h with
  | nil => exact .nil
  | cons r _ ih => exact .cons (.inl (.inl r)) ih
theorem pairN_step {H2 H' : Hp} {D T : Addr} {ts : List Addr} {L : SR} {c : Str × Int} (nD : H2 D = none) (s : Same H2 H') (hD : H' D = some (.lst (ts.map V.ref))) (hP : PairN H' ts L) (nT : H' T = none) :
    (upd H' T (.tup [.str c.1, .int c.2])) D = some (.lst (ts.map V.ref)) ∧ Same H2 (upd (upd H' T (.tup [.str c.1, .int c.2])) D (.lst (ts.map V.ref ++ [.ref T]))) ∧ (upd (upd H' T (.tup [.str c.1, .int c.2])) D (.lst (ts.map V.ref ++ [.ref T]))) D = some (.lst ((ts ++ [T]).map V.ref)) ∧ PairN (upd (upd H' T (.tup [.str c.1, .int c.2])) D (.lst (ts.map V.ref ++ [.ref T]))) (ts ++ [T]) (L ++ [c]) := by
  have sT := same_upd nT (o := .tup [.str c.1, .int c.2])
  have hTD : T ≠ D := fun z => by rw [z, hD] at nT; cases nT
  refine ⟨sT _ _ hD, same_put nD (Same.trans s sT), by rw [upd_same, List.map_append]; rfl, ?_⟩
  refine PairN.snoc (hP.keep fun a xs h => ?_) ?_
  · have h2 := sT _ _ h
    rw [upd_ne (ne_of h2 (sT _ _ hD) (fun z => nomatch z))]
    exact h2
  · rw [upd_ne hTD]
    exact upd_same
theorem merge_nd {L : SR} (nd : (L.map (·.1)).Nodup) : mergeK [] (kvR V.int L) = kvR V.int L := by
  rw [mergeK_nd (kvs := kvR V.int L) (acc := [])]
  · rfl
  · rw [List.nil_append, kvR_keys]
    unfold List.Nodup
    rw [List.pairwise_map]
    exact List.Pairwise.imp (fun h z => h (Sum.inr.inj z)) nd
/-! ### the law's least moment -/
def leastD (d : PlanD) (e : Str) (n : Int) : SR := d.evs.map fun g => (g, if n - ((getR (far d g) e).getD n) > 0 then n - ((getR (far d g) e).getD n) else 0)
theorem leastD_keys (d : PlanD) (e : Str) (n : Int) : (leastD d e n).map (·.1) = d.evs := by
  unfold leastD
  rw [List.map_map]
  exact List.map_id' _
/-! ### a model with new names -/
def renD (z : SS) (d : PlanD) (ms : List Str) : PlanD := ⟨ms, d.ties.map fun t => (trn z t.1, trn z t.2.1, t.2.2), d.caps.map fun c => (trn z c.1, c.2)⟩
def spRenamed : Sp := fun vs H Q _ => ∃ (b m tz l : Addr) (d : PlanD) (z : SS) (ms : List Str) (n : Int), vs = [.ref m, .ref tz, .ref l] ∧ ModAt b H m d ∧ PlanOk d ∧ H tz = some (.dK (kvR V.str z)) ∧ (∀ e ∈ d.evs, getR z e = some (trn z e)) ∧ ((renD z d ms).caps.map (·.1)).Nodup ∧ z ≠ [] ∧ H l = some (.lst (ms.map V.str)) ∧ l ≠ b ∧ Box H b n ∧
  ∀ q H', Same H H' → H q = none → ModAt b H' q (renD z d ms) → Q (.ref q) H'
theorem ok_renamed {f : Addr} {fd : FuncData} (F : Fun K "_law_renamed" "_law_renamed" s_law_renamed f fd) (T : Txt mg) : FnOk P w K mg base CX0 1 f fd ["_law_model_here", "_law_turned", "_law_marks"] spRenamed := by
  have nd := sc_law_renamed.nd
  refine F.ok sc_law_renamed (fun vs H Q E h => ?_) (fun cdv A outer s H vs Q E hr h => ?_)
  · obtain ⟨_, _, _, _, _, _, _, _, rfl, _⟩ := h
    rfl
  · obtain ⟨b, y, tz, l, d, z, ms, n, rfl, hM, ok0, kz, hz, hcn, hzn, kl, hlb, hB, qq⟩ := h
    have hu := hu_of hr
    refine ⟨_, (pss_cons (ps_setLc (i := 3) (y := "_law_cords") (own := [("_law_one", 4), ("_law_other", 5), ("_law_lag_here", 6)]) (g := (gTup K 3 (gCons (gName 4) (gCons (gName 5) (gCons (gName 6) gNil))))) (tt := tYes) rfl nd rfl rfl (sw_true rfl rfl rfl (by decide +kernel)) (pi_list (pe_ix (ixL K) (pv 0) pe_int (fun _ _ => rfl))) (blkOk_by (N := ["_law_model_here", "_law_turned", "_law_marks", "_law_cords", "_law_one", "_law_other", "_law_lag_here", "_law_event"]) (sc := defScope s_law_renamed) (by decide +kernel)) (fun _ _ _ _ _ => (pg_tup rfl (pgs_cons (pg_name (i := 4) nd rfl (Or.inl rfl)) (pgs_cons (pg_name (i := 5) nd rfl (Or.inl rfl)) (pgs_cons (pg_name (i := 6) nd rfl (Or.inl rfl)) pgs_nil))))) (fun _ _ _ _ _ => pts_nil) (fun _ _ _ _ _ => (pe_tup (pa_cons (pe_dget hu (pv 1) (pv 4) (fun _ _ => rfl)) (pa_cons (pe_dget hu (pv 1) (pv 5) (fun _ _ => rfl)) (pa_cons (pv 6) pa_nil))))))
      (pss_one (ps_ret (pe_lst (pa_cons (pv 2) (pa_cons (pv 3) (pa_cons (pe_callTy (call_dictP rfl) (by rfl) T.m_dict PyProof.Rows.boot_dict (pa_cons (pe_lock (pe_lc (own := [("_law_event", 7)]) (g := gName 7) (tt := tYes) rfl nd (pi_keys (pe_ix (ixL K) (pv 0) pe_int (fun _ _ => rfl))) (blkOk_by (N := ["_law_model_here", "_law_turned", "_law_marks", "_law_cords", "_law_one", "_law_other", "_law_lag_here", "_law_event"]) (sc := defScope s_law_renamed) (by decide +kernel)) (fun _ _ _ _ _ => pg_name (i := 7) nd rfl (Or.inl rfl)) (fun _ _ _ _ _ => pts_nil) (fun _ _ _ _ _ => (pe_tup (pa_cons (pe_dget hu (pv 1) (pv 7) (fun _ _ => rfl)) (pa_cons (pe_dget hu (pe_ix (ixL K) (pv 0) pe_int (fun _ _ => rfl)) (pv 7) (fun _ _ => rfl)) pa_nil)))))) pa_nil)) pa_nil))))))), ?_⟩
    obtain ⟨e, t, c, ts, h1, h2, h3, h4, h5, n1, n2, n3, n4, n5⟩ := hM
    have dgk : ∀ {H' : Hp} {g : Str}, H' tz = some (.dK (kvR V.str z)) → g ∈ d.evs → DGet H' tz (.str g) (some (.str (trn z g))) := fun {H'} {g} h hg => .inl ⟨_, .inr g, .inl h, rfl, by rw [valV_kvR, hz g hg]; rfl⟩
    have htc : tz ≠ c := fun y => by
      rw [y, h5] at kz
      have kz : capsV d.caps = kvR V.str z := by injection kz with kz; injection kz
      obtain ⟨k, r, rfl⟩ := List.exists_cons_of_ne_nil hzn
      cases hc : d.caps with
      | nil => rw [hc] at kz; cases kz
      | cons k' r' =>
        rw [hc] at kz
        have kz : ((Sum.inr k'.1 : Key), V.int k'.2) :: capsV r' = (.inr k.1, .str k.2) :: kvR V.str r := kz
        have := (Prod.mk.inj (List.cons.inj kz).1).2
        cases this
    refine seq_asg ?_
    refine ⟨_, rfl, y, _, ((1 : Nat) : Int), .ref t, rfl, rfl, .inl (.inl h1), atI_nat rfl, t, rfl, ⟨_, .inl (.inl h3)⟩, fun D nD => ?_⟩
    have htl : (renD z d ms).ties.length = d.ties.length := List.length_map ..
    have ht60 := ok0.tl
    refine lc_it (walk_list (K := K) (a := t) (xs := ts.map V.ref)) (fun i H' => Same H H' ∧ ∃ as, H' D = some (.lst (as.map V.ref)) ∧ TiesAt H' as ((renD z d ms).ties.take i) ∧ as.length ≤ i) ⟨same_upd nD, [], upd_same, .nil, Nat.le_refl _⟩ (fun i H' _ pv => .inl (.inl (pv.1 _ _ h3))) (fun i x H3' H3 hi pv yv => ?_) (fun H3 pv => ?_)
    · obtain ⟨rfl, hx⟩ := yv
      obtain ⟨a, tt, rfl, htm, htg, hta⟩ := h4.get hx
      obtain ⟨s3, as, hD3, hR3, hla⟩ := pv
      have hta3 := s3 _ _ hta
      obtain ⟨q1, q2, _⟩ := ok0.tin tt htm
      refine ⟨a, _, rfl, .inl (.inl hta3), rfl, _, _, rfl, _, _, rfl, _, _, rfl, rfl, rfl, ?_⟩
      have hgi : (renD z d ms).ties[i]? = some (trn z tt.1, trn z tt.2.1, tt.2.2) := by
        unfold renD
        rw [List.getElem?_map, htg]
        rfl
      have hit : i < d.ties.length := (List.getElem?_eq_some_iff.mp htg).1
      refine ⟨_, rfl, _, rfl, tz, _, rfl, dgk (s3 _ _ kz) q1, _, rfl, _, rfl, tz, _, rfl, dgk (s3 _ _ kz) q2, _, rfl, sz 3, fun T nT => lst_step (r := (trn z tt.1, trn z tt.2.1, tt.2.2)) (n := d.ties.length) nD hD3 hR3 s3 hla hit ?_ nT (by omega)⟩
      rw [List.take_add_one, hgi]
      rfl
    obtain ⟨s3, as, hD3, hR3, hla⟩ := pv
    rw [List.length_map, h4.length, ← htl, List.take_length] at hR3
    have B3 := hB.same s3
    have hDb : D ≠ b := (hB.ne nD).symm
    have asb : ∀ x ∈ as, x ≠ b := fun x hx => by
      obtain ⟨j, hj, rfl⟩ := List.mem_iff_getElem.mp hx
      obtain ⟨a, t', e1, _, _, ha⟩ := hR3.get (i := j) (x := .ref as[j]) (by rw [List.getElem?_map, List.getElem?_eq_getElem hj]; rfl)
      have e1 : as[j] = a := by injection e1
      rw [e1]
      obtain ⟨x, y, z, hb, _⟩ := B3
      exact ne_of ha hb fun z => nomatch z
    have g1 := s3 _ _ h1
    have g5 := s3 _ _ h5
    have kz3 := s3 _ _ kz
    have kl3 := s3 _ _ kl
    have hc8 := caps_len ok0
    refine gname ?_
    refine ⟨_, rfl, _, rfl, c, _, g5, True.intro, fun od => ?_⟩
    have hL : (upd H3 c (.frz od (.dK (capsV d.caps)))) c = some (.frz od (.dK (capsV d.caps))) := upd_same
    have unl : ∀ {H'}, Same (upd H3 c (.frz od (.dK (capsV d.caps)))) H' → Same H3 (upd H' c (.dK (capsV d.caps))) := fun s => unlock_same g5 s
    have fr : ∀ {b}, (upd H3 c (.frz od (.dK (capsV d.caps)))) b = none → H3 b = none ∧ b ≠ c := fun {b} hb => by
      have : b ≠ c := fun z => by rw [z, hL] at hb; cases hb
      rw [upd_ne this] at hb
      exact ⟨hb, this⟩
    have k1 : (upd H3 c (.frz od (.dK (capsV d.caps)))) y = some (.lst [.ref e, .ref t, .ref c]) := by
      rw [upd_ne (ne_of g1 g5 (fun z => nomatch z))]
      exact g1
    have kzL : (upd H3 c (.frz od (.dK (capsV d.caps)))) tz = some (.dK (kvR V.str z)) := by rw [upd_ne htc]; exact kz3
    revert hL unl fr k1 kzL
    generalize upd H3 c (.frz od (.dK (capsV d.caps))) = H4L
    intro hL unl fr k1 kzL
    refine ⟨_, rfl, y, _, ((2 : Nat) : Int), .ref c, rfl, rfl, .inl (.inl k1), atI_nat rfl, c, od, rfl, .inl ⟨_, hL, fun D2 nD2 => ?_⟩⟩
    have hcl : (renD z d ms).caps.length = d.caps.length := List.length_map ..
    refine lc_it (walk_keys (d := c) (o := od) (kvs := capsV d.caps)) (fun i H' => Same H4L H' ∧ ∃ as, H' D2 = some (.lst (as.map V.ref)) ∧ PairN H' as ((renD z d ms).caps.take i)) ⟨same_upd nD2, [], upd_same, .nil⟩ (fun i H' _ pv => pv.1 _ _ hL) (fun i x H5' H5 hi pv yv => ?_) (fun H5 pv => ?_)
    · obtain ⟨rfl, k, v, hk, rfl⟩ := yv
      obtain ⟨s5, as2, hD5, hP5⟩ := pv
      have hlen : (capsV d.caps).length = d.caps.length := List.length_map ..
      rw [hlen] at hi
      have hci : d.caps[i]? = some d.caps[i] := List.getElem?_eq_getElem hi
      have hk2 : (capsV d.caps)[i]? = some (.inr d.caps[i].1, .int d.caps[i].2) := by
        unfold capsV
        rw [List.getElem?_map, hci]
        rfl
      rw [hk2] at hk
      cases hk
      have hg : valV (capsV d.caps) (.inr d.caps[i].1) = some (.int d.caps[i].2) := by
        rw [valV_capOf, capOf_nd ok0.cnd (List.getElem_mem hi)]
        rfl
      have hin := (ok0.cin _ (List.getElem_mem hi)).1
      refine ⟨rfl, _, rfl, _, rfl, tz, _, rfl, dgk (s5 _ _ kzL) hin, ?_⟩
      refine ⟨_, rfl, y, _, ((2 : Nat) : Int), .ref c, rfl, rfl, .inl (.inl (s5 _ _ k1)), atI_nat rfl, _, rfl, c, _, rfl, .inl ⟨capsV d.caps, .inr d.caps[i].1, .inr ⟨od, s5 _ _ hL⟩, rfl, hg.symm⟩, sz 2, fun T nT => ?_⟩
      obtain ⟨w1, w2, w3, w4⟩ := pairN_step (c := (trn z d.caps[i].1, d.caps[i].2)) nD2 s5 hD5 hP5 nT
      refine ⟨_, w1, ?_, w2, _, w3, ?_⟩
      · rw [List.length_map, Paired.length hP5, List.length_take]
        exact Nat.lt_of_le_of_lt (Nat.min_le_right _ _) (Nat.lt_of_lt_of_le (by omega : _ < 100) (sz 100))
      · have : (renD z d ms).caps[i]? = some (trn z d.caps[i].1, d.caps[i].2) := by
          unfold renD
          rw [List.getElem?_map, hci]
          rfl
        rw [List.take_add_one, this]
        exact w4
    · obtain ⟨s5, as2, hD5, hP5⟩ := pv
      have hlen : (capsV d.caps).length = (renD z d ms).caps.length := by rw [hcl]; exact List.length_map ..
      rw [hlen, List.take_length] at hP5
      have s35 := unl s5
      have hD6 : (upd H5 c (.dK (capsV d.caps))) D2 = some (.lst (as2.map V.ref)) := by rw [upd_ne (fr nD2).2]; exact hD5
      have hP6 : PairN (upd H5 c (.dK (capsV d.caps))) as2 (renD z d ms).caps := hP5.keep fun a xs h => by
        rw [upd_ne]
        · exact h
        · intro z
          rw [z, s5 _ _ hL] at h
          cases h
      refine ⟨s5 _ _ hL, D2, as2, kvR V.int (renD z d ms).caps, rfl, ?_⟩
      revert s35 hD6 hP6
      generalize upd H5 c (.dK (capsV d.caps)) = H6
      intro s35 hD6 hP6
      refine ⟨.inl (.inl hD6), hP6.kvs, fun c' nc' => ?_⟩
      rw [merge_nd hcn]
      have s7 := same_upd nc' (o := .dK (kvR V.int (renD z d ms).caps))
      have k7 : (upd H6 c' (.dK (kvR V.int (renD z d ms).caps))) c' = some (.dK (capsV (renD z d ms).caps)) := upd_same
      have s37 := Same.trans s35 s7
      have nc'b : c' ≠ b := ((B3.same s35).ne nc').symm
      revert k7 s37
      generalize upd H6 c' (.dK (kvR V.int (renD z d ms).caps)) = H7
      intro k7 s37
      refine ⟨sz 3, fun q nq => ?_⟩
      have s8 := same_upd nq (o := .lst [.ref l, .ref D, .ref c'])
      have s08 := Same.trans s3 (Same.trans s37 s8)
      have s38 := Same.trans s37 s8
      have qb : q ≠ b := ((B3.same s37).ne nq).symm
      exact qq q _ s08 ((Same.trans s3 s37).free nq) ⟨l, D, c', as, upd_same, s38 _ _ kl3, s38 _ _ hD3, hR3.same s38, s8 _ _ k7, qb, hlb, hDb, nc'b, asb⟩

end
end Pk

set_option Elab.async false
set_option linter.all false
set_option maxRecDepth 100000
set_option maxHeartbeats 4000000
namespace Pk
open PySem PySem.Spec PyProof.Rows L2 Pu
section
variable {P : Program} {w : World} {K : PySem.W.Frag} {mg : Str → Option Value} {base : Heap}
theorem keys_iffS {r : SS} {l : Str} : l ∈ r.map (·.1) ↔ (getR r l).isSome = true := by
  induction r with
  | nil => exact ⟨fun h => absurd h List.not_mem_nil, fun h => nomatch h⟩
  | cons c r ih =>
    show l ∈ c.1 :: r.map (·.1) ↔ (if c.1 = l then some c.2 else getR r l).isSome = true
    by_cases e : c.1 = l
    · rw [if_pos e, e]
      exact ⟨fun _ => rfl, fun _ => List.mem_cons_self ..⟩
    · rw [if_neg e, ← ih]
      exact ⟨fun h => (List.mem_cons.mp h).resolve_left fun z => e z.symm, fun h => List.mem_cons_of_mem _ h⟩
/-! ### plans with the same leads under new names -/
structure Iso (d d2 : PlanD) (σ τ : Str → Str) : Prop where
  s0 : σ "" = ""
  t0 : τ "" = ""
  sin : ∀ e ∈ d.evs, σ e ∈ d2.evs
  tin : ∀ e ∈ d2.evs, τ e ∈ d.evs
  ts : ∀ e ∈ d.evs, τ (σ e) = e
  st : ∀ e ∈ d2.evs, σ (τ e) = e
  eq : ∀ a ∈ ("" : Str) :: d.evs, ∀ b ∈ ("" : Str) :: d.evs, farS d a b = farS d2 (σ a) (σ b)
theorem in_pl {es fs : List Str} {σ : Str → Str} (s0 : σ "" = "") (h : ∀ e ∈ es, σ e ∈ fs) : ∀ e ∈ ("" : Str) :: es, σ e ∈ ("" : Str) :: fs := fun e he => by
  rcases List.mem_cons.mp he with rfl | he
  · rw [s0]
    exact List.mem_cons_self ..
  · exact List.mem_cons_of_mem _ (h e he)
theorem id_pl {es : List Str} {σ τ : Str → Str} (s0 : σ "" = "") (t0 : τ "" = "") (h : ∀ e ∈ es, τ (σ e) = e) : ∀ e ∈ ("" : Str) :: es, τ (σ e) = e := fun e he => by
  rcases List.mem_cons.mp he with rfl | he
  · rw [s0, t0]
  · exact h e he
theorem Iso.symm {d d2 : PlanD} {σ τ : Str → Str} (h : Iso d d2 σ τ) : Iso d2 d τ σ :=
  ⟨h.t0, h.s0, h.tin, h.sin, h.st, h.ts, fun a ha b hb => by
    rw [h.eq _ (in_pl h.t0 h.tin a ha) _ (in_pl h.t0 h.tin b hb), id_pl h.t0 h.s0 h.st a ha, id_pl h.t0 h.s0 h.st b hb]⟩
theorem wk_map {R R' : Str → Str → Int → Prop} {τ : Str → Str} (h : ∀ a b x, R a b x → ∃ w, w ≤ x ∧ Wk R' (τ a) (τ b) w) {a b : Str} {w : Int} (hw : Wk R a b w) : ∃ w', w' ≤ w ∧ Wk R' (τ a) (τ b) w' := by
  induction hw with
  | nil => exact ⟨0, Int.le_refl _, .nil⟩
  | snoc _ r ih =>
    obtain ⟨w1, l1, k1⟩ := ih
    obtain ⟨w2, l2, k2⟩ := h _ _ _ r
    exact ⟨w1 + w2, by omega, k1.app k2⟩
theorem iso_of {d d2 : PlanD} (ok : PlanOk d) (ok2 : PlanOk d2) {σ τ : Str → Str} (s0 : σ "" = "") (t0 : τ "" = "") (sin : ∀ e ∈ d.evs, σ e ∈ d2.evs) (tin : ∀ e ∈ d2.evs, τ e ∈ d.evs) (ts : ∀ e ∈ d.evs, τ (σ e) = e) (st : ∀ e ∈ d2.evs, σ (τ e) = e)
    (h1 : ∀ a b x, RowL (lawRows d) a b x → ∃ w, w ≤ x ∧ Wk (RowL (lawRows d2)) (σ a) (σ b) w) (h2 : ∀ a b x, RowL (lawRows d2) a b x → ∃ w, w ≤ x ∧ Wk (RowL (lawRows d)) (τ a) (τ b) w) : Iso d d2 σ τ := by
  refine ⟨s0, t0, sin, tin, ts, st, fun a ha b hb => ?_⟩
  have ha2 := in_pl s0 sin a ha
  have ea := id_pl s0 t0 ts a ha
  have eb := id_pl s0 t0 ts b hb
  refine Option.ext fun v => ?_
  show getR (far d a) b = some v ↔ getR (far d2 (σ a)) (σ b) = some v
  rw [far_dist ok ha, far_dist ok2 ha2]
  constructor
  · rintro ⟨hw, hmin⟩
    obtain ⟨w', l', k'⟩ := wk_map h1 hw
    have back : ∀ u, Wk (RowL (lawRows d2)) (σ a) (σ b) u → v ≤ u := fun u hu => by
      obtain ⟨u', l, k⟩ := wk_map h2 hu
      rw [ea, eb] at k
      have := hmin _ k
      omega
    have := back _ k'
    have e : w' = v := by omega
    exact ⟨e ▸ k', back⟩
  · rintro ⟨hw, hmin⟩
    obtain ⟨w', l', k'⟩ := wk_map h2 hw
    rw [ea, eb] at k'
    have back : ∀ u, Wk (RowL (lawRows d)) a b u → v ≤ u := fun u hu => by
      obtain ⟨u', l, k⟩ := wk_map h1 hu
      have := hmin _ k
      omega
    have := back _ k'
    have e : w' = v := by omega
    exact ⟨e ▸ k', back⟩
theorem ok_evs {d : PlanD} (ok : PlanOk d) {ms : List Str} (h : ms.Perm d.evs) : PlanOk ⟨ms, d.ties, d.caps⟩ :=
  ⟨⟨by rw [h.length_eq]; exact ok.evs.lo, by rw [h.length_eq]; exact ok.evs.hi, fun e he => ok.evs.nm e (h.mem_iff.mp he), h.nodup_iff.mpr ok.evs.nd⟩, ok.tl, fun t ht => by
    obtain ⟨h1, h2, h3⟩ := ok.tin t ht
    exact ⟨h.mem_iff.mpr h1, h.mem_iff.mpr h2, h3⟩, fun c hc => ⟨h.mem_iff.mpr (ok.cin c hc).1, (ok.cin c hc).2⟩, ok.cnd, ok.up⟩
/-- closed ties more -/
theorem ok_more {d : PlanD} (ok : PlanOk d) {mo ts : List LRow} (hp : ts.Perm (d.ties ++ mo)) (hl : d.ties.length + mo.length ≤ 60) (hm : ∀ t ∈ mo, t.1 ∈ d.evs ∧ t.2.1 ∈ d.evs ∧ 0 < t.2.2) : PlanOk ⟨d.evs, ts, d.caps⟩ := by
  refine ⟨ok.evs, by show ts.length ≤ 60; rw [hp.length_eq, List.length_append]; exact hl, fun t ht => ?_, ok.cin, ok.cnd, ?_⟩
  · rcases List.mem_append.mp (hp.mem_iff.mp ht) with h | h
    · exact ok.tin t h
    · obtain ⟨h1, h2, h3⟩ := hm t h
      exact ⟨h1, h2, Int.le_of_lt h3⟩
  · obtain ⟨ρ, hρ⟩ := ok.up
    refine ⟨ρ, fun t ht h0 => ?_⟩
    rcases List.mem_append.mp (hp.mem_iff.mp ht) with h | h
    · exact hρ t h h0
    · have := (hm t h).2.2
      omega
theorem wk_one {R : Str → Str → Int → Prop} {a b : Str} {x : Int} (h : R a b x) : ∃ w, w ≤ x ∧ Wk R a b w := ⟨0 + x, by omega, .snoc .nil h⟩
def bckT (d : PlanD) (z : SS) (y : Str) : Str := (d.evs.find? fun e => decide (trn z e = y)).getD ""
theorem ren_iso {d : PlanD} (ok : PlanOk d) {ns ms : List Str} (hl : d.evs.length = ns.length) (nd : ns.Nodup) (nm : ∀ y ∈ ns, nameOk y = true) (hms : ms.Perm ns) {mo ts : List LRow} (hp : ts.Perm ((renD (d.evs.zip ns) d ms).ties ++ mo)) (h60 : d.ties.length + mo.length ≤ 60)
    (hm : ∀ t ∈ mo, t.1 ∈ ms ∧ t.2.1 ∈ ms ∧ 0 < t.2.2 ∧ getR (far (renD (d.evs.zip ns) d ms) t.1) t.2.1 = some t.2.2) :
    PlanOk (renD (d.evs.zip ns) d ms) ∧ PlanOk ⟨ms, ts, (renD (d.evs.zip ns) d ms).caps⟩ ∧ Iso d ⟨ms, ts, (renD (d.evs.zip ns) d ms).caps⟩ (trn (d.evs.zip ns)) (bckT d (d.evs.zip ns)) := by
  have em := trn_map ok.evs.nd (Nat.le_of_eq hl)
  rw [hl, List.take_length] at em
  have ndm : (d.evs.map (trn (d.evs.zip ns))).Nodup := by rw [em]; exact nd
  have inj : ∀ {a b}, a ∈ d.evs → b ∈ d.evs → trn (d.evs.zip ns) a = trn (d.evs.zip ns) b → a = b := fun ha hb h => inj_on ndm ha hb h
  have hme : ms.Perm (d.evs.map (trn (d.evs.zip ns))) := by rw [em]; exact hms
  have ok1 : PlanOk (renD (d.evs.zip ns) d ms) := ok_evs (trnD_ok ok (Nat.le_of_eq hl) nd nm) hme
  have ok2 : PlanOk ⟨ms, ts, (renD (d.evs.zip ns) d ms).caps⟩ := ok_more ok1 hp (by show (List.map _ _).length + _ ≤ 60; rw [List.length_map]; exact h60) fun t ht => ⟨(hm t ht).1, (hm t ht).2.1, (hm t ht).2.2.1⟩
  have no0 : ∀ {e : PlanD}, PlanOk e → ("" : Str) ∉ e.evs := fun o h => (List.nodup_cons.mp (evs_nd o)).1 h
  have back : ∀ {a}, a ∈ d.evs → bckT d (d.evs.zip ns) (trn (d.evs.zip ns) a) = a := fun {a} ha => by
    unfold bckT
    cases hf : d.evs.find? fun e => decide (trn (d.evs.zip ns) e = trn (d.evs.zip ns) a) with
    | none =>
      have := List.find?_eq_none.mp hf a ha
      exact absurd (decide_eq_true rfl) this
    | some b =>
      have hb := List.mem_of_find?_eq_some hf
      have he := List.find?_some hf
      exact inj hb ha (of_decide_eq_true he)
  have sin : ∀ e ∈ d.evs, trn (d.evs.zip ns) e ∈ ms := fun e he => hme.mem_iff.mpr (List.mem_map_of_mem he)
  have sur : ∀ y ∈ ms, ∃ e ∈ d.evs, trn (d.evs.zip ns) e = y := fun y hy => by
    obtain ⟨e, he, h⟩ := List.mem_map.mp (hme.mem_iff.mp hy)
    exact ⟨e, he, h⟩
  have s0 : trn (d.evs.zip ns) "" = "" := by
    unfold trn
    cases hg : getR (d.evs.zip ns) "" with
    | none => rfl
    | some v =>
      have : ("" : Str) ∈ (d.evs.zip ns).map (·.1) := (keys_iffS (r := d.evs.zip ns)).mpr (by rw [hg]; rfl)
      rw [List.map_fst_zip (Nat.le_of_eq hl)] at this
      exact absurd this (no0 ok)
  have t0 : bckT d (d.evs.zip ns) "" = "" := by
    unfold bckT
    cases hf : d.evs.find? fun e => decide (trn (d.evs.zip ns) e = "") with
    | none => rfl
    | some b =>
      have hb := List.mem_of_find?_eq_some hf
      have he := List.find?_some hf
      have he : trn (d.evs.zip ns) b = "" := of_decide_eq_true he
      have := sin b hb
      rw [he] at this
      exact absurd this (no0 ok1)
  have tin : ∀ y ∈ ms, bckT d (d.evs.zip ns) y ∈ d.evs := fun y hy => by
    obtain ⟨e, he, rfl⟩ := sur y hy
    rw [back he]
    exact he
  have st : ∀ y ∈ ms, trn (d.evs.zip ns) (bckT d (d.evs.zip ns) y) = y := fun y hy => by
    obtain ⟨e, he, rfl⟩ := sur y hy
    rw [back he]
  -- a row of the renamed plan, back
  have rowB : ∀ a b x, RowL (lawRows (renD (d.evs.zip ns) d ms)) a b x → RowL (lawRows d) (bckT d (d.evs.zip ns) a) (bckT d (d.evs.zip ns) b) x := fun a b x h => by
    have h : (a, b, x) ∈ (renD (d.evs.zip ns) d ms).ties ++ (renD (d.evs.zip ns) d ms).caps.map (fun c => (("" : Str), c.1, c.2)) ++ ms.map (fun e => (e, ("" : Str), (0 : Int))) := h
    show (_, _, _) ∈ d.ties ++ d.caps.map (fun c => (("" : Str), c.1, c.2)) ++ d.evs.map (fun e => (e, ("" : Str), (0 : Int)))
    rcases List.mem_append.mp h with h | h
    · refine List.mem_append.mpr (.inl ?_)
      rcases List.mem_append.mp h with h | h
      · refine List.mem_append.mpr (.inl ?_)
        obtain ⟨t, ht, e⟩ := List.mem_map.mp h
        cases e
        obtain ⟨h1, h2, _⟩ := ok.tin t ht
        rw [back h1, back h2]
        exact ht
      · refine List.mem_append.mpr (.inr ?_)
        obtain ⟨c', hc', e⟩ := List.mem_map.mp h
        cases e
        obtain ⟨c, hc, rfl⟩ := List.mem_map.mp hc'
        rw [t0, back (ok.cin c hc).1]
        exact List.mem_map.mpr ⟨c, hc, rfl⟩
    · refine List.mem_append.mpr (.inr ?_)
      obtain ⟨e, he, e1⟩ := List.mem_map.mp h
      cases e1
      rw [t0]
      exact List.mem_map.mpr ⟨_, tin _ he, rfl⟩
  refine ⟨ok1, ok2, iso_of ok ok2 s0 t0 sin tin (fun e he => back he) st (fun a b x h => ?_) (fun a b x h => ?_)⟩
  · refine wk_one ?_
    have h : (a, b, x) ∈ d.ties ++ d.caps.map (fun c => (("" : Str), c.1, c.2)) ++ d.evs.map (fun e => (e, ("" : Str), (0 : Int))) := h
    show (_, _, _) ∈ ts ++ (renD (d.evs.zip ns) d ms).caps.map (fun c => (("" : Str), c.1, c.2)) ++ ms.map (fun e => (e, ("" : Str), (0 : Int)))
    rcases List.mem_append.mp h with h | h
    · refine List.mem_append.mpr (.inl ?_)
      rcases List.mem_append.mp h with h | h
      · exact List.mem_append.mpr (.inl (hp.mem_iff.mpr (List.mem_append.mpr (.inl (List.mem_map.mpr ⟨_, h, rfl⟩)))))
      · obtain ⟨c, hc, e⟩ := List.mem_map.mp h
        cases e
        rw [s0]
        exact List.mem_append.mpr (.inr (List.mem_map.mpr ⟨_, List.mem_map_of_mem hc, rfl⟩))
    · obtain ⟨e, he, e1⟩ := List.mem_map.mp h
      cases e1
      rw [s0]
      exact List.mem_append.mpr (.inr (List.mem_map.mpr ⟨_, sin _ he, rfl⟩))
  · have h : (a, b, x) ∈ ts ++ (renD (d.evs.zip ns) d ms).caps.map (fun c => (("" : Str), c.1, c.2)) ++ ms.map (fun e => (e, ("" : Str), (0 : Int))) := h
    rcases List.mem_append.mp h with h | h
    · rcases List.mem_append.mp h with h | h
      · rcases List.mem_append.mp (hp.mem_iff.mp h) with h | h
        · exact wk_one (rowB a b x (List.mem_append.mpr (.inl (List.mem_append.mpr (.inl h)))))
        · obtain ⟨m1, m2, _, m4⟩ := hm _ h
          have hd := (far_dist ok1 (List.mem_cons_of_mem _ m1) _ _).mp m4
          exact wk_map (fun a b x h => wk_one (rowB a b x h)) hd.1
      · exact wk_one (rowB a b x (List.mem_append.mpr (.inl (List.mem_append.mpr (.inr h)))))
    · exact wk_one (rowB a b x (List.mem_append.mpr (.inr h)))

end
end Pk

set_option Elab.async false
set_option linter.all false
set_option maxRecDepth 100000
set_option maxHeartbeats 1000000
/-! dict(zip(list, list)) as an expression: the second may be longer -/
namespace Pu
open PySem PySem.Spec PyProof.Rows L2
def tDictZL (K : PySem.W.Frag) (ta : TA) : TE := fun σ H Q => ta σ H fun xs H1 => ∃ (a b : Addr) (ks : List Key) (vs : List V), xs = [.ref a, .ref b] ∧ SqL K H1 a (ks.map kV) ∧ SqL K H1 b vs ∧ ks.length ≤ vs.length ∧ 0 < ks.length ∧ ks.length ≤ 1000 ∧
  ∀ p, H1 p = none → Q (.ref p) (upd H1 p (.dK (mergeK [] (ks.zip vs))))
theorem pe_dictZL {X : Cx} {e e2 : Expr} {ta : TA} {p p2 q pos : Pos} (hg : Gl X "dict") (hm : X.mg "dict" = none) (hg2 : Gl X "zip") (hm2 : X.mg "zip" = none) (ha : PA X [e, e2] ta) (hc : X.calm = true := by rfl)
    (hs : starEach [e, e2] X.env = (false, eval e X.env) :: starEach [e2] X.env := by rfl) (hpl : (backTo q (starEach [e2] X.env)).any (·.1) = false := by rfl) :
    PE X (.Call (.Name "dict" p) [.Call (.Name "zip" p2) [e, e2] [] q] [] pos) (tDictZL X.K ta) := by
  refine ⟨fun pins s σ H Q I h => ?_⟩
  refine Call_ (ld_blt I hg hm PyProof.Rows.boot_dict ?_)
  refine PyProof.Rows.callWith_type1 (PyProof.Rows.args_cons ?_ rfl) rfl rfl
  refine Call_ (ld_blt I hg2 hm2 PyProof.Rows.boot_zip (PyProof.Rows.callWith_type1 (thn (ha.run q pins s σ H _ I h) fun us s1 ⟨xs, H1, I1, r1, q1⟩ => ?_) hs hpl))
  obtain ⟨a, b, ks, vs, ex, hqa, hqb, hlen, h0, hz0, q⟩ := q1
  subst ex
  cases r1 with
  | cons r rr =>
    cases rr with
    | cons r' rr =>
      cases rr
      cases r
      cases r'
      obtain ⟨its, rv, pl, _⟩ := I1.list hqa
      obtain ⟨its2, rv2, pl2, _⟩ := I1.list hqb
      have la : a < s1.heap.objs.size := pl.lt
      have lb : b < s1.heap.objs.size := pl2.lt
      have l1 : its.length = ks.length := by rw [← rv.length, List.length_map]
      have l2 : ks.length ≤ its2.length := by rw [← rv2.length]; exact hlen
      refine call_zip_2 pl.isList pl2.isList fun h' hz hTI hTO h1 h2 _ hk => ?_
      refine PyProof.Rows.args_nil ?_
      have D := PySem.W.ktu_apart s1.heap.objs.size a b la lb
      have G1 := advL (prog := X.prog) (w := X.w) D.l1i1 its.toArray
      have G2 := advL (prog := X.prog) (w := X.w) D.l2i2 its2.toArray
      have A := zipM_arg _ _ _ _ _ a b D (n := ks.length) h0 G1 G2 (fun i hi => ⟨its[i]'(by omega), by simp [List.getElem?_eq_getElem (show i < its.length by omega)]⟩) (fun i hi => ⟨its2[i]'(by omega), by simp [List.getElem?_eq_getElem (show i < its2.length by omega)]⟩) (by simp [l1])
      have I2 : Inv X pins σ H1 { s1 with heap := h' } := I1.kept (t' := s1.toks) hk
      have hsz : s1.heap.objs.size + 5 ≤ h'.objs.size := Heap.lt_size hz
      refine PySem.call_dict_pairs (knd := mixKind X.prog X.w) (kvs := ks.zip its2) (s := { s1 with heap := h' }) A (I1.ok.hd hc) ⟨hz, hTI, ⟨_, _, hTO⟩, ⟨h1, pl.isList.at fun o e => hk _ o e⟩, ⟨h2, pl2.isList.at fun o e => hk _ o e⟩⟩ ⟨by rw [List.length_zip, Nat.min_eq_left l2], fun i key v hr => ?_⟩ (by rw [sizeLine_eq]; omega) fun h2' tk hd hk2 => ?_
      · obtain ⟨e1, e2⟩ := hr
        have e1 : its[i]? = some key := by simpa using e1
        have e2 : its2[i]? = some v := by simpa using e2
        obtain ⟨kv, hkv, rkv⟩ := vals_at rv e1
        rw [List.getElem?_map] at hkv
        cases hki : ks[i]? with
        | none => rw [hki] at hkv; cases hkv
        | some k =>
          rw [hki] at hkv
          cases hkv
          exact ⟨k, by rw [List.getElem?_zip_eq_some]; exact ⟨hki, e2⟩, kV_is (P := X.prog) (w := X.w) rkv⟩
      · have nw : ∀ {c : Addr} {o : Obj}, s1.heap.get? c = some o → c ∉ [s1.heap.objs.size + 4, s1.heap.objs.size + 3, s1.heap.objs.size, s1.heap.objs.size + 1] := fun {c o} e hc => by
          have := Heap.lt_size e
          simp only [List.mem_cons, List.not_mem_nil, or_false] at hc
          have ge : s1.heap.objs.size ≤ c := by
            rcases hc with h | h | h | h
            · rw [h]; exact Nat.le_add_right _ _
            · rw [h]; exact Nat.le_add_right _ _
            · rw [h]; exact Nat.le_refl _
            · rw [h]; exact Nat.le_add_right _ _
          exact absurd this (Nat.not_lt.mpr ge)
        have hbig : s1.heap.objs.size ≤ h'.objs.size := by omega
        have rel : KV (ks.zip vs) (ks.zip its2) := kv_zip rv2
        have hm : (h'.objs.size == sysModules) = false := beq_eq_false_iff_ne.mpr (Nat.ne_of_gt (Nat.lt_of_lt_of_le I1.big hbig))
        have hlen2 : (mergeK [] (ks.zip vs)).length ≤ sizeLine := by
          refine Nat.le_trans (length_mergeK _ []) ?_
          rw [List.length_nil, Nat.zero_add, List.length_zip, sizeLine_eq]
          omega
        exact ⟨.ref h'.objs.size, upd H1 h'.objs.size (.dK (mergeK [] (ks.zip vs))), I1.laid (t' := tk) (fun c o e => hk2 c o (nw e) (hk c o e)) hbig (show ObjOk X.prog X.w _ _ _ (.dK (mergeK [] (ks.zip vs))) from ⟨hlen2, hm, merged [] (ks.zip its2), KV.merge rel .nil, hd⟩), rfl, q _ (I1.hok.fresh hbig)⟩
end Pu

set_option Elab.async false
set_option linter.all false
set_option maxRecDepth 100000
set_option maxHeartbeats 4000000
namespace Pk
open PySem PySem.Spec PyProof.Rows L2 Pu
abbrev s_law_second : Stmt := topS 56
theorem sc_law_second : FnScope ["_law_box_here", "_law_model_here", "_law_names_here", "_law_turned", "_law_found", "_law_leads_here", "_law_more", "_law_event", "_law_other"] ["_law_box_here", "_law_model_here"] (defScope s_law_second) := ⟨rfl, rfl, rfl, by decide +kernel, rfl, by decide +kernel, by decide +kernel⟩

section
variable {P : Program} {w : World} {K : PySem.W.Frag} {mg : Str → Option Value} {base : Heap}
def unR : V → Addr
  | .ref a => a
  | _ => 0
theorem perm_refs {ys : List V} {ts : List Addr} (h : ys.Perm (ts.map V.ref)) : ∃ ps : List Addr, ys = ps.map V.ref ∧ ps.Perm ts := by
  refine ⟨ys.map unR, ?_, ?_⟩
  · rw [List.map_map]
    have : ∀ y ∈ ys, (V.ref ∘ unR) y = y := by
      intro y hy
      obtain ⟨s, _, rfl⟩ := List.mem_map.mp (h.mem_iff.mp hy)
      rfl
    rw [List.map_congr_left this, List.map_id']
  · have := h.map unR
    rw [List.map_map] at this
    rw [show (unR ∘ V.ref) = id from rfl, List.map_id] at this
    exact this
theorem perm_ties {H : Hp} {us as : List Addr} (h : us.Perm as) : ∀ {rs : List LRow}, TiesAt H as rs → ∃ rs', TiesAt H us rs' ∧ rs'.Perm rs := by
  unfold TiesAt
  induction h with
  | nil => exact fun p => ⟨_, p, .refl _⟩
  | cons x _ ih =>
    intro ys p
    cases p with
    | cons r t =>
      obtain ⟨ys', t', q⟩ := ih t
      exact ⟨_ :: ys', .cons r t', q.cons _⟩
  | swap x y l =>
    intro ys p
    cases p with
    | cons r t =>
      cases t with
      | cons r2 t => exact ⟨_, .cons r2 (.cons r t), .swap _ _ _⟩
  | trans _ _ ih1 ih2 =>
    intro ys p
    obtain ⟨ys1, t1, q1⟩ := ih2 p
    obtain ⟨ys2, t2, q2⟩ := ih1 t1
    exact ⟨ys2, t2, q2.trans q1⟩
theorem ModAt.mdA' {b m : Addr} {H : Hp} {d : PlanD} (h : ModAt b H m d) : MdAt H m d := by
  obtain ⟨e, t, c, ts, h1, h2, h3, h4, h5, _⟩ := h
  exact ⟨e, t, c, ts, h1, h2, h3, h4, h5⟩
theorem SumsX.ext {b q : Addr} {H H' : Hp} {d : PlanD} {n : Int} (h : SumsX H q d) (B : Box H b n) (x : Pu.Ext b H H') : SumsX H' q d := by
  obtain ⟨sa, h1, h2⟩ := h.ex
  obtain ⟨u, v, w, hb, _⟩ := B
  exact ⟨sa, x _ _ (ne_of h1 hb fun z => nomatch z) h1, fun f hf => x _ _ (ne_of (h2 f hf) hb fun z => nomatch z) (h2 f hf)⟩
/-! ### the model renamed, and with closed ties more -/
def spSec47 : Sp := fun vs H Q _ => ∃ (b m : Addr) (d : PlanD) (n : Int), vs = [.ref b, .ref m] ∧ ModAt b H m d ∧ PlanOk d ∧ d.ties.length ≤ 8 ∧ n ≤ 700000 ∧ Box H b n ∧
  ∀ q d2 H' σ τ, Box H' b (n + 100) → Pu.Ext b H H' → H q = none → ModAt b H' q d2 → PlanOk d2 → d2.ties.length ≤ 16 → d2.evs.length = d.evs.length → Iso d d2 σ τ → Q (.ref q) H'
theorem ok_sec47 {f : Addr} {fd : FuncData} (F : Fun K "_law_second" "_law_second" s_law_second f fd) (T : Txt mg) (claw_take : Cal P w K mg base 1 "_law_take" spTake []) (claw_mixed : Cal P w K mg base 2 "_law_mixed" (spShuf K) []) (claw_names : Cal P w K mg base 2 "_law_names" spNames []) (claw_renamed : Cal P w K mg base 1 "_law_renamed" spRenamed []) (claw_leads : Cal P w K mg base 2 "_law_leads" spLawLeads []) : FnOk P w K mg base CX0 5 f fd ["_law_box_here", "_law_model_here"] spSec47 := by
  have nd := sc_law_second.nd
  refine F.ok sc_law_second (fun vs H Q E h => ?_) (fun cdv A outer s H vs Q E hr h => ?_)
  · obtain ⟨_, _, _, _, rfl, _⟩ := h
    rfl
  · obtain ⟨b, m, d, n, rfl, hM, ok, ht8, hn, hB, qq⟩ := h
    have hu := hu_of hr
    refine ⟨_, (pss_cons (ps_set (i := 2) nd rfl (Or.inl rfl) (pe_c claw_mixed hr (by decide) rfl (pa_cons (pv 0) (pa_cons (pe_c claw_names hr (by decide) rfl (pa_cons (pv 0) (pa_cons (pe_callB (lenK K) (by rfl) T.m_len PySem.boot_len (pa_cons (pe_ix (ixL K) (pv 1) pe_int (fun _ _ => rfl)) pa_nil)) pa_nil))) pa_nil))))
      (pss_cons (ps_set (i := 3) nd rfl (Or.inl rfl) (pe_dictZL rfl T.m_dict rfl T.m_zip (pa_cons (pe_ix (ixL K) (pv 1) pe_int (fun _ _ => rfl)) (pa_cons (pv 2) pa_nil))))
      (pss_cons (ps_set (i := 4) nd rfl (Or.inl rfl) (pe_c claw_renamed hr (by decide) rfl (pa_cons (pv 1) (pa_cons (pv 3) (pa_cons (pe_c claw_mixed hr (by decide) rfl (pa_cons (pv 0) (pa_cons (pv 2) pa_nil))) pa_nil)))))
      (pss_cons (ps_par (i := 5) (j := 6) rfl nd rfl rfl (by decide) rfl rfl (pa_cons (pe_c claw_leads hr (by decide) rfl (pa_cons (pv 4) pa_nil)) (pa_cons (pe_lst pa_nil) pa_nil)) (by rfl))
      (pss_cons (ps_for PassesOwn.never rfl (pi_list (pe_ix (ixL K) (pv 4) pe_int (fun _ _ => rfl))) (pg_name (i := 7) nd rfl (Or.inl rfl))
      (pss_cons (ps_set (i := 8) nd rfl (Or.inl rfl) (pe_ix (ixL K) (pe_ix (ixL K) (pv 4) pe_int (fun _ _ => rfl)) (pe_c claw_take hr (by decide) rfl (pa_cons (pv 0) (pa_cons (pe_callB (lenK K) (by rfl) T.m_len PySem.boot_len (pa_cons (pv 2) pa_nil)) pa_nil))) (fun _ _ => rfl)))
      (pss_one (ps_if (PW.pt (pw_and (pt_cmpR op_ne (pv 7) (pv 8) (by rfl)) (pw_and1 (pt_cmpR op_gt (pe_dget2 hu (pe_dget hu (pv 5) (pv 7) (fun _ _ => rfl)) (pv 8) pe_int (by constructor <;> intros <;> rfl)) pe_int (by rfl)))))
      (pss_one (ps_expr (pe_bm PySem.F.plainAttrs_list PySem.F.slot_list_append PySem.F.type_list_append mt_append (pv 6) (pa_cons (pe_tup (pa_cons (pv 7) (pa_cons (pv 8) (pa_cons (pe_dget hu (pe_dget hu (pv 5) (pv 7) (fun _ _ => rfl)) (pv 8) (fun _ _ => rfl)) pa_nil)))) pa_nil)))) pss_nil))))
      (pss_one (ps_ret (pe_lst (pa_cons (pe_ix (ixL K) (pv 4) pe_int (fun _ _ => rfl)) (pa_cons (pe_c claw_mixed hr (by decide) rfl (pa_cons (pv 0) (pa_cons (pe_op oAdd (pe_ix (ixL K) (pv 4) pe_int (fun _ _ => rfl)) (pv 6)) pa_nil))) (pa_cons (pe_ix (ixL K) (pv 4) pe_int (fun _ _ => rfl)) pa_nil))))))))))), ?_⟩
    have hl := ok.evs.hi
    have hl1 := ok.evs.lo
    obtain ⟨e, t, c, ts, h1, h2, h3, h4, h5, n1, n2, n3, n4, n5⟩ := id hM
    refine seq_asg ?_
    refine ⟨_, rfl, _, rfl, _, rfl, m, _, ((0 : Nat) : Int), .ref e, rfl, rfl, .inl (.inl h1), atI_nat rfl, .inl ⟨e, _, rfl, .inl (.inl (.inl h2)), ?_⟩⟩
    refine ⟨b, (d.evs.map V.str).length, n, rfl, by rw [List.length_map]; exact hl1, by rw [List.length_map]; exact hl, by omega, hB, fun l es H1 B1 x1 nl kl hes hel => ?_⟩
    rw [List.length_map] at hel
    refine ⟨b, l, es.map V.str, n + 4, rfl, .inl (.inl (.inl kl)), by rw [List.length_map]; omega, by omega, B1, fun l2 ys H2 B2 x2 nl2 kl2 hp => ?_⟩
    obtain ⟨ns, rfl, hns⟩ := perm_strs hp
    have hnl : d.evs.length = ns.length := by rw [hns.length_eq, hel]
    have nsnd : ns.Nodup := hns.nodup_iff.mpr hes.nd
    have nsnm : ∀ y ∈ ns, nameOk y = true := fun y hy => hes.nm y (hns.mem_iff.mp hy)
    rw [List.length_map] at B2
    have B2 := B2.mono (show n + 4 + (es.length : Nat) ≤ n + 12 by omega)
    have x12 := x1.trans x2
    have lb2 : l2 ≠ b := (B1.ne nl2).symm
    clear hns hp kl nl hes x1 x2 B1 nl2
    have hM2 := hM.ext x12
    obtain ⟨e, t, c, ts, h1, h2, h3, h4, h5, n1, n2, n3, n4, n5⟩ := id hM2
    refine gname (seq_asg ?_)
    refine ⟨_, rfl, m, _, ((0 : Nat) : Int), .ref e, rfl, rfl, .inl (.inl h1), atI_nat rfl, _, rfl, e, l2, d.evs.map fun e => (Sum.inr e : Key), ns.map V.str, rfl, .inl (.inl (by rw [List.map_map]; exact h2)), .inl (.inl kl2), by rw [List.length_map, List.length_map]; omega, by rw [List.length_map]; exact hl1, by rw [List.length_map]; omega, fun tz ntz => ?_⟩
    rw [zipS_kvR, mergeS_nd (by rw [List.map_fst_zip (by omega)]; exact ok.evs.nd)]
    have s3 := same_upd ntz (o := .dK (kvR V.str (d.evs.zip ns)))
    have kz : (upd H2 tz (.dK (kvR V.str (d.evs.zip ns)))) tz = some (.dK (kvR V.str (d.evs.zip ns))) := upd_same
    have hzb : tz ≠ b := (B2.ne ntz).symm
    revert kz s3
    generalize upd H2 tz (.dK (kvR V.str (d.evs.zip ns))) = H3
    intro s3 kz
    have B3 := B2.same s3
    have hM3 := hM2.same s3
    have x03 := x12.trans (same_ext s3)
    have kl3 := s3 _ _ kl2
    clear h1 h2 h3 h4 h5 n1 n2 n3 n4 n5 hM2 s3 ntz kl2 B2
    refine gname (seq_asg ?_)
    refine ⟨_, rfl, _, rfl, _, rfl, _, rfl, b, l2, ns.map V.str, n + 12, rfl, .inl (.inl (.inl kl3)), by rw [List.length_map]; omega, by omega, B3, fun l4 ys H4 B4 x4 nl4 kl4 hp => ?_⟩
    obtain ⟨ms, rfl, hms⟩ := perm_strs hp
    rw [List.length_map] at B4
    have B4 := B4.mono (show n + 12 + (ns.length : Nat) ≤ n + 20 by omega)
    have lb4 : l4 ≠ b := (B3.ne nl4).symm
    have hM4 := hM3.ext x4
    have kz4 := x4 _ _ hzb kz
    have kn4 := x4 _ _ lb2 kl3
    have x04 := x03.trans x4
    have okT := trnD_ok ok (Nat.le_of_eq hnl) nsnd nsnm
    have ok1 : PlanOk (renD (d.evs.zip ns) d ms) := ok_evs okT (by
      show ms.Perm (d.evs.map (trn (d.evs.zip ns)))
      rw [trn_map ok.evs.nd (Nat.le_of_eq hnl), hnl, List.take_length]
      exact hms)
    refine ⟨b, m, tz, l4, d, d.evs.zip ns, ms, n + 20, rfl, hM4, ok, kz4, fun e he => trn_get (Nat.le_of_eq hnl) he, okT.cnd, fun z => ?_, kl4, lb4, B4, fun q5 H5 s5 nq5 hM5 => ?_⟩
    · have := congrArg List.length z
      rw [List.length_zip] at this
      have : min d.evs.length ns.length = 0 := this
      omega
    have B5 := B4.same s5
    have x05 := x04.trans (same_ext s5)
    have kn5 := s5 _ _ kn4
    clear hp nl4 x4 hM4 kz4 kn4 x04 s5 nq5 kl4 B4 hM3 x03 kl3 kz B3 x12 lb4
    refine gname (seq_st ?_)
    refine ⟨_, rfl, q5, _, rfl, hM5.mdA', ok1, fun q6 H6 s6 nq6 hX6 => ⟨sz 0, fun L nL => ?_⟩⟩
    refine ⟨_, _, rfl, ?_⟩
    have hM6 := hM5.same s6
    have B6 := B5.same s6
    have x06 := x05.trans (same_ext s6)
    have kn6 := s6 _ _ kn5
    have hLb : L ≠ b := (B6.ne nL).symm
    have s7 := same_upd nL (o := .lst [])
    have kL : (upd H6 L (.lst [])) L = some (.lst (([] : List Addr).map V.ref)) := upd_same
    have B7 := B6.same s7
    have x7 : Pu.Ext b H6 (upd H6 L (.lst [])) := same_ext s7
    revert kL B7 x7
    generalize upd H6 L (.lst []) = H7
    intro kL B7 x7
    have hmsl : ms.length = d.evs.length := by rw [hms.length_eq, hnl]
    obtain ⟨e5, t5, c5, ts5, r1, r2, r3, r4, r5, m1, m2, m3, m4, m5⟩ := id hM6
    have q6b : q6 ≠ b := by
      obtain ⟨sa, z1, _⟩ := hX6.ex
      obtain ⟨u, v, w, hb, _⟩ := B6
      exact ne_of z1 hb fun z => nomatch z
    clear s7 nq6 s6 hM5 B5 x05 kn5
    refine seq_st ?_
    refine ⟨_, rfl, q5, _, ((0 : Nat) : Int), .ref e5, rfl, rfl, .inl (.inl (x7 _ _ m1 r1)), atI_nat rfl, e5, rfl, ⟨_, .inl (.inl (x7 _ _ m2 r2))⟩, ?_⟩
    refine for_it (walk_list (K := K) (a := e5) (xs := ms.map V.str)) (fun i σ H' => Box H' b (n + 20 + (i : Nat)) ∧ Pu.Ext b H6 H' ∧ ∃ as mo v7 v8, H' L = some (.lst (as.map V.ref)) ∧ TiesAt H' as mo ∧ mo.length ≤ i ∧ (∀ a ∈ as, a ≠ b ∧ a ≠ L) ∧ (∀ t ∈ mo, t.1 ∈ ms ∧ t.2.1 ∈ ms ∧ 0 < t.2.2 ∧ getR (far (renD (d.evs.zip ns) d ms) t.1) t.2.1 = some t.2.2) ∧ σ = [some (.ref b), some (.ref m), some (.ref l2), some (.ref tz), some (.ref q5), some (.ref q6), some (.ref L), v7, v8]) ⟨by show Box H7 b (n + 20 + 0); rw [Int.add_zero]; exact B7, x7, [], [], _, _, kL, .nil, Nat.le_refl _, fun a ha => absurd ha List.not_mem_nil, fun t ht => absurd ht List.not_mem_nil, rfl⟩ (fun i σ H' _ pv => .inl (.inl (pv.2.1 _ _ m2 r2))) (fun i x σ H8' H8 hi pv yv => ?_) (fun σ H8 pv => ?_)
    · obtain ⟨rfl, hx⟩ := yv
      obtain ⟨B8, x8, as, mo, v7, v8, kL8, hT8, hml, has, hmo, rfl⟩ := pv
      obtain ⟨g, hg, rfl⟩ := strs_get hx
      have hgm := List.mem_of_getElem? hg
      rw [List.length_map, hmsl] at hi
      refine gname (seq_asg ?_)
      refine ⟨_, rfl, q5, _, ((0 : Nat) : Int), .ref e5, rfl, rfl, .inl (.inl (x8 _ _ m1 r1)), atI_nat rfl, _, rfl, _, rfl, .inl ⟨l2, _, rfl, .inl (.inl (.inl (x8 _ _ lb2 kn6))), b, (ns.map V.str).length, n + 20 + (i : Nat), rfl, ?_, ?_, by omega, B8, fun dd H9 g1 g2 B9 x9 => ?_⟩⟩
      · rw [List.length_map]; omega
      · rw [List.length_map]
        exact Int.lt_of_le_of_lt (by omega : ((ns.length : Nat) : Int) ≤ 8) (by decide)
      rw [List.length_map] at g2
      obtain ⟨o, ho, hom⟩ := pick_str (es := ms) g1 (by rw [hms.length_eq]; exact g2)
      have x69 := x8.trans x9
      refine ⟨e5, _, dd, _, rfl, rfl, .inl (.inl (x69 _ _ m2 r2)), ho, ?_⟩
      refine gname ?_
      have hX9 := hX6.ext B6 x69
      obtain ⟨a1, k1, r11, r12, r13⟩ := hX9.at.row2 (List.mem_cons_of_mem _ hgm)
      have kL9 := x9 _ _ hLb kL8
      have hT9 : TiesAt H9 as mo := hT8.keep fun u hu r hr => x9 _ _ (has u hu).1 hr
      have B9' := B9.mono (show n + 20 + (i : Nat) + 1 ≤ n + 20 + ((i + 1 : Nat) : Int) by omega)
      have stay : Box H9 b (n + 20 + ((i + 1 : Nat) : Int)) ∧ Pu.Ext b H6 H9 ∧ ∃ as mo v7 v8, H9 L = some (.lst (as.map V.ref)) ∧ TiesAt H9 as mo ∧ mo.length ≤ i + 1 ∧ (∀ a ∈ as, a ≠ b ∧ a ≠ L) ∧ (∀ t ∈ mo, t.1 ∈ ms ∧ t.2.1 ∈ ms ∧ 0 < t.2.2 ∧ getR (far (renD (d.evs.zip ns) d ms) t.1) t.2.1 = some t.2.2) ∧ [some (V.ref b), some (.ref m), some (.ref l2), some (.ref tz), some (.ref q5), some (.ref q6), some (.ref L), some (.str g), some (.str o)] = [some (.ref b), some (.ref m), some (.ref l2), some (.ref tz), some (.ref q5), some (.ref q6), some (.ref L), v7, v8] :=
        ⟨B9', x69, as, mo, _, _, kL9, hT9, Nat.le_succ_of_le hml, has, hmo, rfl⟩
      refine ⟨_, rfl, _, rfl, rfl, _, rfl, ite2 (fun _ => ?_) (fun _ => stay)⟩
      refine ⟨_, rfl, _, rfl, q6, _, rfl, r11, a1, rfl, .inl ⟨_, .inl r12⟩, _, rfl, _, r13 o, ?_⟩
      cases hv : getR (far (renD (d.evs.zip ns) d ms) g) o with
      | none => exact ⟨_, _, rfl, rfl, _, rfl, iteF stay⟩
      | some v =>
        refine ⟨_, _, rfl, rfl, _, rfl, ite2 (fun hpos => ?_) (fun _ => stay)⟩
        have hpos : 0 < v := of_decide_eq_true hpos
        have r13 := r13 o
        rw [hv] at r13
        refine ⟨_, rfl, .inl ⟨rfl, _, .inl (.inl kL9)⟩, _, rfl, _, rfl, _, rfl, _, rfl, q6, _, rfl, r11, _, rfl, a1, _, rfl, r13, sz 3, fun T nT => ?_⟩
        have s10 := same_upd nT (o := .tup [.str g, .str o, .int v])
        have hTb : T ≠ b := (B9'.ne nT).symm
        have hTL : T ≠ L := fun z => by rw [z, kL9] at nT; cases nT
        have hL10 := s10 _ _ kL9
        have hx10 : Pu.Ext b H6 (upd (upd H9 T (.tup [.str g, .str o, .int v])) L (.lst (as.map V.ref ++ [.ref T]))) := fun a u hab hu => by
          have : a ≠ L := fun z => by rw [z, nL] at hu; cases hu
          rw [upd_ne this]
          exact s10 _ _ (x69 _ _ hab hu)
        refine ⟨L, _, _, rfl, rfl, hL10, ?_, (B9'.same s10).upd hLb.symm, hx10, as ++ [T], mo ++ [(g, o, v)], _, _, by rw [upd_same, List.map_append]; rfl, ?_, by rw [List.length_append]; exact Nat.succ_le_succ hml, fun a ha => ?_, fun t ht => ?_, rfl⟩
        · rw [List.length_map, Paired.length hT9]
          exact Nat.lt_of_le_of_lt hml (Nat.lt_of_lt_of_le (by omega : i < 100) (sz 100))
        · refine TiesAt.app ((hT9.same s10).keep fun u hu r hr => by rw [upd_ne (has u hu).2]; exact hr) (.cons ?_ .nil)
          rw [upd_ne hTL]
          exact upd_same
        · rcases List.mem_append.mp ha with h | h
          · exact has a h
          · rw [List.mem_singleton.mp h]
            exact ⟨hTb, hTL⟩
        · rcases List.mem_append.mp ht with h | h
          · exact hmo t h
          · rw [List.mem_singleton.mp h]
            exact ⟨hgm, hom, hpos, hv⟩
    · obtain ⟨B8, x8, as, mo, v7, v8, kL8, hT8, hml, has, hmo, rfl⟩ := pv
      rw [List.length_map, hmsl] at B8 hml
      have B8 := B8.mono (show n + 20 + (d.evs.length : Nat) ≤ n + 28 by omega)
      have f3 := x8 _ _ m3 r3
      have f1 := x8 _ _ m1 r1
      have hT5 : TiesAt H8 ts5 (renD (d.evs.zip ns) d ms).ties := r4.keep fun u hu r hr => x8 _ _ (m5 u hu) hr
      have htl : (renD (d.evs.zip ns) d ms).ties.length = d.ties.length := List.length_map ..
      have lt5 : ts5.length = d.ties.length := by rw [Paired.length hT5, htl]
      have las : as.length ≤ 8 := by rw [Paired.length hT8]; omega
      refine ⟨_, rfl, q5, _, ((0 : Nat) : Int), .ref e5, rfl, rfl, .inl (.inl f1), atI_nat rfl, _, rfl, _, rfl, q5, _, ((1 : Nat) : Int), .ref t5, rfl, rfl, .inl (.inl f1), atI_nat rfl, _, rfl, .inr (.inr ⟨t5, L, _, _, rfl, rfl, f3, kL8, ?_, fun p np => ?_⟩)⟩
      · rw [List.length_map, List.length_map]
        exact Nat.le_trans (by omega : _ ≤ 100) (sz 100)
      have s9 := same_upd np (o := .lst (ts5.map V.ref ++ as.map V.ref))
      have kp : (upd H8 p (.lst (ts5.map V.ref ++ as.map V.ref))) p = some (.lst ((ts5 ++ as).map V.ref)) := by rw [upd_same, List.map_append]
      revert s9 kp
      generalize upd H8 p (.lst (ts5.map V.ref ++ as.map V.ref)) = H9
      intro s9 kp
      refine ⟨b, p, (ts5 ++ as).map V.ref, n + 28, rfl, .inl (.inl (.inl kp)), by rw [List.length_map, List.length_append]; omega, by omega, B8.same s9, fun l9 ys H10 B10 x10 nl9 kl9 hp9 => ?_⟩
      obtain ⟨us, rfl, hus⟩ := perm_refs hp9
      rw [List.length_map, List.length_append] at B10
      have B10 := B10.mono (show n + 28 + ((ts5.length + as.length : Nat) : Int) ≤ n + 100 by omega)
      have hTT : TiesAt H9 (ts5 ++ as) ((renD (d.evs.zip ns) d ms).ties ++ mo) := TiesAt.app (hT5.same s9) (hT8.same s9)
      have hnb : ∀ u ∈ ts5 ++ as, u ≠ b := fun u hu => by
        rcases List.mem_append.mp hu with h | h
        · exact m5 u h
        · exact (has u h).1
      have hTT := hTT.keep fun u hu r hr => x10 _ _ (hnb u hu) hr
      obtain ⟨ties2, hT2, hp2⟩ := perm_ties hus hTT
      have x610 := x8.trans ((same_ext s9).trans x10)
      have lb9 : l9 ≠ b := ((B8.same s9).ne nl9).symm
      refine ⟨_, rfl, q5, _, ((2 : Nat) : Int), .ref c5, rfl, rfl, .inl (.inl (x610 _ _ m1 r1)), atI_nat rfl, sz 3, fun q nq => ?_⟩
      have mol : mo.length ≤ 8 := Nat.le_trans hml hl
      obtain ⟨k1, k2, k3⟩ := ren_iso ok hnl nsnd nsnm hms hp2 (by omega) hmo
      have sq := same_upd nq (o := .lst [.ref e5, .ref l9, .ref c5])
      have xq := x610.trans (same_ext sq)
      have qb : q ≠ b := (B10.ne nq).symm
      refine qq q ⟨ms, ties2, (renD (d.evs.zip ns) d ms).caps⟩ _ _ _ (B10.same sq) (x06.trans xq) ((x06.trans x610).fresh B10 nq) ⟨e5, l9, c5, us, upd_same, xq _ _ m2 r2, sq _ _ kl9, hT2.same sq, xq _ _ m4 r5, qb, m2, lb9, m4, fun u hu => hnb u (hus.mem_iff.mp hu)⟩ k2 ?_ hmsl k3
      show ties2.length ≤ 16
      rw [hp2.length_eq, List.length_append, htl]
      omega

end
end Pk

set_option Elab.async false
set_option linter.all false
set_option maxRecDepth 100000
set_option maxHeartbeats 4000000
namespace Pk
open PySem PySem.Spec PyProof.Rows L2 Pu
section
variable {P : Program} {w : World} {K : PySem.W.Frag} {mg : Str → Option Value} {base : Heap}
/-! ### profiles, sorted -/
theorem toks_ints : ∀ {xs ys : List Int} {l m : List (Int ⊕ List Nat)}, PySem.W.keyToksAll (xs.map .int) ++ l = PySem.W.keyToksAll (ys.map .int) ++ m → xs = ys ∧ l = m
  | [], [], l, m, h => by
    simp only [List.map_nil, PySem.W.keyToksAll] at h
    exact ⟨rfl, (List.cons.inj h).2⟩
  | [], y :: ys, l, m, h => by
    simp only [List.map_nil, List.map_cons, PySem.W.keyToksAll] at h
    have := Sum.inl.inj (List.cons.inj h).1
    omega
  | x :: xs, [], l, m, h => by
    simp only [List.map_nil, List.map_cons, PySem.W.keyToksAll] at h
    have := Sum.inl.inj (List.cons.inj h).1
    omega
  | x :: xs, y :: ys, l, m, h => by
    simp only [List.map_cons, PySem.W.keyToksAll, PySem.W.keyToks, List.cons_append, List.nil_append] at h
    have h := (List.cons.inj h).2
    obtain ⟨h1, h2⟩ := List.cons.inj h
    obtain ⟨h3, h4⟩ := toks_ints h2
    exact ⟨by rw [Sum.inl.inj h1, h3], h4⟩
theorem encP_toks {p q : PrD} (h : PySem.W.keyToks (encP p) = PySem.W.keyToks (encP q)) : p = q := by
  have h : PySem.W.keyToks (.tuple [.int p.top, .tuple (p.on.map .int), .tuple (p.ba.map .int)]) = PySem.W.keyToks (.tuple [.int q.top, .tuple (q.on.map .int), .tuple (q.ba.map .int)]) := h
  simp only [PySem.W.keyToksAll, PySem.W.keyToks, List.cons_append, List.nil_append] at h
  have h := (List.cons.inj h).2
  obtain ⟨h1, h⟩ := List.cons.inj h
  have h := (List.cons.inj h).2
  obtain ⟨h2, h⟩ := toks_ints h
  have h := (List.cons.inj h).2
  obtain ⟨h3, _⟩ := toks_ints h
  have h1 := Sum.inl.inj h1
  cases p
  cases q
  subst h1
  subst h2
  subst h3
  rfl
def leP (p q : PrD) : Bool := PySem.W.dataLe false (fun d : PyData => d) (encP p) (encP q)
theorem fmap_congr {α β : Type} {f g : α → Option β} : ∀ {l : List α}, (∀ a ∈ l, f a = g a) → l.filterMap f = l.filterMap g
  | [], _ => rfl
  | a :: l, h => by
    rw [List.filterMap_cons, List.filterMap_cons, h a (List.mem_cons_self ..), fmap_congr fun b hb => h b (List.mem_cons_of_mem _ hb)]
theorem leP_eq (p q : PrD) : leP p q = !PyProof.Rows.lexLt PyProof.Rows.itemOrd (PySem.W.keyToks (encP q)) (PySem.W.keyToks (encP p)) := rfl
theorem srtL_enc (ps : List PrD) : srtL (ps.map encP) = (ps.mergeSort leP).map encP := by
  unfold srtL
  exact (List.map_mergeSort (r := leP) (s := PySem.W.dataLe false fun d : PyData => d) (f := encP) (l := ps) fun _ _ _ _ => rfl).symm
theorem srtP_perm {ps qs : List PrD} (h : ps.Perm qs) : ps.mergeSort leP = qs.mergeSort leP := by
  have tr : ∀ a b c, leP a b = true → leP b c = true → leP a c = true := fun a b c h1 h2 => by
    rw [leP_eq, Bool.not_eq_true'] at h1 h2 ⊢
    cases hz : PyProof.Rows.lexLt PyProof.Rows.itemOrd (PySem.W.keyToks (encP c)) (PySem.W.keyToks (encP a)) with
    | false => rfl
    | true =>
      rcases PyProof.Rows.lex_negTrans (O := PyProof.Rows.itemOrd) _ (PySem.W.keyToks (encP b)) _ hz with y | y
      · rw [y] at h2; cases h2
      · rw [y] at h1; cases h1
  have tt : ∀ a b, (leP a b || leP b a) = true := fun a b => by
    rw [leP_eq, leP_eq]
    cases h1 : PyProof.Rows.lexLt PyProof.Rows.itemOrd (PySem.W.keyToks (encP b)) (PySem.W.keyToks (encP a)) with
    | false => rfl
    | true =>
      cases h2 : PyProof.Rows.lexLt PyProof.Rows.itemOrd (PySem.W.keyToks (encP a)) (PySem.W.keyToks (encP b)) with
      | false => simp
      | true =>
        have := PyProof.Rows.lex_trans (O := PyProof.Rows.itemOrd) _ _ _ h1 h2
        rw [PyProof.Rows.lex_irrefl] at this
        cases this
  refine PySem.W.Srt.the_of_perm (le := leP) tr tt (fun a b h1 h2 => ?_) ((List.mergeSort_perm ..).trans h) (List.pairwise_mergeSort tr tt ps)
  rw [leP_eq, Bool.not_eq_true'] at h1 h2
  exact encP_toks (PyProof.Rows.lex_total (O := PyProof.Rows.itemOrd) _ _ h2 h1)
theorem eqv_ints : ∀ xs : List Int, PyData.eqvAll (xs.map .int) (xs.map .int) = true
  | [] => by simp [PyData.eqvAll]
  | x :: xs => by
    show PyData.eqvAll (.int x :: xs.map .int) (.int x :: xs.map .int) = true
    rw [PyData.eqvAll, eqv_ints xs]
    simp [PyData.eqv]
theorem eqv_enc (p : PrD) : PyData.eqv (encP p) (encP p) = true := by
  show PyData.eqv (.tuple [.int p.top, .tuple (p.on.map .int), .tuple (p.ba.map .int)]) (.tuple [.int p.top, .tuple (p.on.map .int), .tuple (p.ba.map .int)]) = true
  simp [PyData.eqv, PyData.eqvAll, eqv_ints]
theorem eqvAll_enc : ∀ ps : List PrD, PyData.eqvAll (ps.map encP) (ps.map encP) = true
  | [] => by simp [PyData.eqvAll]
  | p :: ps => by
    show PyData.eqvAll (encP p :: ps.map encP) (encP p :: ps.map encP) = true
    rw [PyData.eqvAll, eqvAll_enc ps, eqv_enc]
    rfl
theorem eqvAll_len : ∀ {xs ys : List PyData}, PyData.eqvAll xs ys = true → xs.length = ys.length
  | [], [], _ => rfl
  | [], _ :: _, h => by simp [PyData.eqvAll] at h
  | _ :: _, [], h => by simp [PyData.eqvAll] at h
  | x :: xs, y :: ys, h => by
    rw [PyData.eqvAll, Bool.and_eq_true] at h
    rw [List.length_cons, List.length_cons, eqvAll_len h.2]
/-! ### new names are told where there are some -/
structure RenS (d d2 : PlanD) (σ : Str → Str) : Prop where
  s0 : σ "" = ""
  inj : ∀ a ∈ ("" : Str) :: d.evs, ∀ b ∈ ("" : Str) :: d.evs, σ a = σ b → a = b
  perm : (d.evs.map σ).Perm d2.evs
  eq : ∀ a ∈ ("" : Str) :: d.evs, ∀ b ∈ ("" : Str) :: d.evs, farS d a b = farS d2 (σ a) (σ b)
theorem prf_eq {d d2 : PlanD} {σ : Str → Str} (h : RenS d d2 σ) {e : Str} (he : e ∈ d.evs) : prfD (("" : Str) :: d2.evs) (farS d2) (σ e) = prfD (("" : Str) :: d.evs) (farS d) e := by
  have hp : (("" : Str) :: d2.evs).Perm ((("" : Str) :: d.evs).map σ) := by
    rw [List.map_cons, h.s0]
    exact h.perm.symm.cons _
  have he' := List.mem_cons_of_mem ("" : Str) he
  have e1 : (("" : Str) :: d.evs).filterMap (fun a => farS d2 (σ e) (σ a)) = onw (("" : Str) :: d.evs) (farS d) e := fmap_congr fun a ha => (h.eq _ he' _ ha).symm
  have e2 : (("" : Str) :: d.evs).filterMap (fun a => farS d2 (σ a) (σ e)) = bck (("" : Str) :: d.evs) (farS d) e := fmap_congr fun a ha => (h.eq _ ha _ he').symm
  have h1 : sI (onw (("" : Str) :: d2.evs) (farS d2) (σ e)) = sI (onw (("" : Str) :: d.evs) (farS d) e) := by
    refine sI_perm ?_
    rw [← e1]
    refine (hp.filterMap (farS d2 (σ e))).trans ?_
    rw [List.filterMap_map]
    exact .refl _
  have h2 : sI (bck (("" : Str) :: d2.evs) (farS d2) (σ e)) = sI (bck (("" : Str) :: d.evs) (farS d) e) := by
    refine sI_perm ?_
    rw [← e2]
    refine (hp.filterMap (fun g => farS d2 g (σ e))).trans ?_
    rw [List.filterMap_map]
    exact .refl _
  unfold prfD
  rw [h1, h2, h.eq _ (List.mem_cons_self ..) _ he', h.s0]
theorem prS_enc (d : PlanD) : d.evs.map (prS d) = (d.evs.map (prfD (("" : Str) :: d.evs) (farS d))).map encP := by
  rw [List.map_map]
  rfl
theorem rnm_some {d d2 : PlanD} (ok : PlanOk d) {σ : Str → Str} (h : RenS d d2 σ) : (rnmD d d2).isSome = true := by
  have hp : (d.evs.map (prfD (("" : Str) :: d.evs) (farS d))).Perm (d2.evs.map (prfD (("" : Str) :: d2.evs) (farS d2))) := by
    refine List.Perm.trans ?_ (h.perm.map _)
    rw [List.map_map]
    refine List.Perm.of_eq (List.map_congr_left fun e he => ?_)
    exact (prf_eq h he).symm
  have e1 : srtL (d.evs.map (prS d)) = srtL (d2.evs.map (prS d2)) := by
    rw [prS_enc, prS_enc, srtL_enc, srtL_enc, srtP_perm hp]
  have e2 : PyData.eqv (.list (srtL (d.evs.map (prS d)))) (.list (srtL (d2.evs.map (prS d2)))) = true := by
    rw [← e1, prS_enc, srtL_enc]
    simp only [PyData.eqv, eqvAll_enc]
  unfold rnmD
  rw [if_pos e2, Option.isSome_map]
  have := renF_some (M := matS d d2) ok.evs.nd (fun z => (List.nodup_cons.mp (evs_nd ok)).1 z) h.s0 h.inj (fun e he => ?_) h.eq 8 0 (Nat.zero_le _) (by have := ok.evs.hi; omega)
  · have e3 : ((("" : Str) :: d.evs.take 0).map fun e => (e, σ e)) = [(("" : Str), ("" : Str))] := by
      show [(("" : Str), σ "")] = _
      rw [h.s0]
    rw [e3] at this
    exact this
  · refine List.mem_filter.mpr ⟨h.perm.mem_iff.mp (List.mem_map_of_mem he), ?_⟩
    unfold prS
    rw [prf_eq h he]
    exact eqv_enc _
theorem Iso.ren {d d2 : PlanD} (ok : PlanOk d) (ok2 : PlanOk d2) {σ τ : Str → Str} (h : Iso d d2 σ τ) : RenS d d2 σ := by
  have inj : ∀ a ∈ ("" : Str) :: d.evs, ∀ b ∈ ("" : Str) :: d.evs, σ a = σ b → a = b := fun a ha b hb e => by
    rw [← id_pl h.s0 h.t0 h.ts a ha, ← id_pl h.s0 h.t0 h.ts b hb, e]
  refine ⟨h.s0, inj, (List.perm_ext_iff_of_nodup (nd_map ok.evs.nd fun a ha b hb e => inj a (List.mem_cons_of_mem _ ha) b (List.mem_cons_of_mem _ hb) e) ok2.evs.nd).mpr fun y => ?_, h.eq⟩
  constructor
  · intro hy
    obtain ⟨e, he, rfl⟩ := List.mem_map.mp hy
    exact h.sin e he
  · intro hy
    exact List.mem_map.mpr ⟨τ y, h.tin y hy, h.st y hy⟩
theorem far_zero {d : PlanD} (ok : PlanOk d) {e : Str} (he : e ∈ ("" : Str) :: d.evs) : farS d e "" = some 0 := by
  show getR (far d e) "" = some 0
  rcases List.mem_cons.mp he with rfl | he'
  · exact (far_dist ok he "" 0).mpr ⟨.nil, fun _ hw => hw.nn (law_nn ok)⟩
  · refine (far_dist ok he "" 0).mpr ⟨?_, fun _ hw => hw.nn (law_nn ok)⟩
    have : Wk (RowL (lawRows d)) e "" (0 + 0) := .snoc .nil (List.mem_append.mpr (.inr (List.mem_map.mpr ⟨e, he', rfl⟩)))
    exact this
theorem far_selfS {d : PlanD} (ok : PlanOk d) {e : Str} (he : e ∈ ("" : Str) :: d.evs) : farS d e e = some 0 := (far_dist ok he e 0).mpr ⟨.nil, fun _ hw => hw.nn (law_nn ok)⟩
/-- no order of the names is right where none is told -/
theorem isB_ren {d d2 : PlanD} (ok : PlanOk d) (ok2 : PlanOk d2) {row : List Str} (hl : d.evs.length = d2.evs.length) (hr : row.Perm d2.evs) (h : isB d d2 (d.evs.zip row) = true) : RenS d d2 (trn (d.evs.zip row)) := by
  have hle : d.evs.length ≤ row.length := by rw [hr.length_eq]; omega
  have em := trn_map ok.evs.nd hle
  rw [List.take_of_length_le (by rw [hr.length_eq]; omega)] at em
  have s0 : trn (d.evs.zip row) "" = "" := by
    unfold trn
    cases hg : getR (d.evs.zip row) "" with
    | none => rfl
    | some v =>
      have : ("" : Str) ∈ (d.evs.zip row).map (·.1) := (keys_iffS (r := d.evs.zip row)).mpr (by rw [hg]; rfl)
      rw [List.map_fst_zip hle] at this
      exact absurd this (List.nodup_cons.mp (evs_nd ok)).1
  have nd2 : (d.evs.map (trn (d.evs.zip row))).Nodup := by rw [em]; exact hr.nodup_iff.mpr ok2.evs.nd
  have hin : ∀ e ∈ d.evs, trn (d.evs.zip row) e ∈ d2.evs := fun e he => by
    have := List.mem_map_of_mem (f := trn (d.evs.zip row)) he
    rw [em] at this
    exact hr.mem_iff.mp this
  have hz : ∀ e ∈ d.evs, (e, trn (d.evs.zip row) e) ∈ d.evs.zip row := fun e he => getR_mem (trn_get hle he)
  have hb : ∀ e ∈ d.evs, farS d "" e = farS d2 "" (trn (d.evs.zip row) e) ∧ ∀ k ∈ d.evs, farS d e k = farS d2 (trn (d.evs.zip row) e) (trn (d.evs.zip row) k) := fun e he => by
    have := List.all_eq_true.mp h _ (hz e he)
    rw [Bool.and_eq_true, List.all_eq_true] at this
    exact ⟨of_decide_eq_true this.1, fun k hk => of_decide_eq_true (this.2 _ (hz k hk))⟩
  refine ⟨s0, fun a ha b hb e => ?_, by rw [em]; exact hr, fun a ha b hb' => ?_⟩
  · rcases List.mem_cons.mp ha with rfl | ha' <;> rcases List.mem_cons.mp hb with rfl | hb'
    · rfl
    · rw [s0] at e
      have := hin _ hb'
      rw [← e] at this
      exact absurd this (List.nodup_cons.mp (evs_nd ok2)).1
    · rw [s0] at e
      have := hin _ ha'
      rw [e] at this
      exact absurd this (List.nodup_cons.mp (evs_nd ok2)).1
    · exact inj_on nd2 ha' hb' e
  · have hin' := in_pl s0 hin
    rcases List.mem_cons.mp hb' with rfl | hb2
    · rw [s0, far_zero ok ha, far_zero ok2 (hin' a ha)]
    · rcases List.mem_cons.mp ha with rfl | ha2
      · rw [s0]
        exact (hb _ hb2).1
      · exact (hb _ ha2).2 _ hb2
theorem renF_pre {S S' : Str → Str → Option Int} {es : List Str} {M : Str → List Str} : ∀ (n : Nat) {L L' : List (Str × Str)}, renF S S' es M n L = some L' → ∃ r, L' = L ++ r ∧ ∀ c ∈ r, c.2 ∈ M c.1 := by
  intro n
  induction n with
  | zero =>
    intro L L' h
    have h : (if L.length > es.length then some L else none) = some L' := h
    by_cases hgt : L.length > es.length
    · rw [if_pos hgt] at h
      cases h
      exact ⟨[], (List.append_nil _).symm, fun c hc => absurd hc List.not_mem_nil⟩
    · rw [if_neg hgt] at h
      cases h
  | succ n ih =>
    intro L L' h
    have h : (if L.length > es.length then some L else (M (es.getD (L.length - 1) "")).findSome? fun r => if !decide (r ∈ L.map (·.2)) && likeB S S' (es.getD (L.length - 1) "") r L then renF S S' es M n (L ++ [(es.getD (L.length - 1) "", r)]) else none) = some L' := h
    by_cases hgt : L.length > es.length
    · rw [if_pos hgt] at h
      cases h
      exact ⟨[], (List.append_nil _).symm, fun c hc => absurd hc List.not_mem_nil⟩
    · rw [if_neg hgt] at h
      obtain ⟨r, hr, h⟩ := List.exists_of_findSome?_eq_some h
      by_cases hc : (!decide (r ∈ L.map (·.2)) && likeB S S' (es.getD (L.length - 1) "") r L) = true
      · rw [if_pos hc] at h
        obtain ⟨q, rfl, hq⟩ := ih h
        refine ⟨(es.getD (L.length - 1) "", r) :: q, by rw [List.append_assoc]; rfl, fun c hc => ?_⟩
        rcases List.mem_cons.mp hc with rfl | hc
        · exact hr
        · exact hq c hc
      · rw [if_neg hc] at h
        cases h
theorem pw_all {α : Type} {R : α → α → Prop} (sy : ∀ a b, R a b → R b a) : ∀ {l : List α}, l.Pairwise R → (∀ a ∈ l, R a a) → ∀ a ∈ l, ∀ b ∈ l, R a b
  | [], _, _, a, ha, _, _ => absurd ha List.not_mem_nil
  | x :: l, h, hr, a, ha, b, hb => by
    rw [List.pairwise_cons] at h
    rcases List.mem_cons.mp ha with rfl | ha' <;> rcases List.mem_cons.mp hb with rfl | hb'
    · exact hr _ (List.mem_cons_self ..)
    · exact h.1 b hb'
    · exact sy _ _ (h.1 a ha')
    · exact pw_all sy h.2 (fun a ha => hr a (List.mem_cons_of_mem _ ha)) a ha' b hb'
/-- what is told is right -/
theorem rnm_right {d d2 : PlanD} (ok : PlanOk d) (ok2 : PlanOk d2) {L : List (Str × Str)} (h : rnmD d d2 = some L) : L.map (·.1) = d.evs ∧ (L.map (·.2)).Perm d2.evs ∧ isB d d2 L = true := by
  unfold rnmD at h
  cases he : PyData.eqv (.list (srtL (d.evs.map (prS d)))) (.list (srtL (d2.evs.map (prS d2)))) with
  | false => rw [he, if_neg Bool.false_ne_true] at h; cases h
  | true =>
    rw [he, if_pos rfl] at h
    obtain ⟨L0, h0, rfl⟩ := Option.map_eq_some_iff.mp h
    have hlen : d.evs.length = d2.evs.length := by
      simp only [PyData.eqv] at he
      have := eqvAll_len he
      unfold srtL at this
      rwa [(List.mergeSort_perm ..).length_eq, (List.mergeSort_perm ..).length_eq, List.length_map, List.length_map] at this
    obtain ⟨h1, h2, h3, _⟩ := renF_sound 8 h0 (Nat.le_refl _) (Nat.succ_le_succ (Nat.zero_le _)) (List.pairwise_singleton ..) (List.pairwise_singleton ..)
    obtain ⟨r, rfl, hr⟩ := renF_pre 8 h0
    have e1 : r.map (·.1) = d.evs := (List.cons.inj h1).2
    have h2 : ((("" : Str), ("" : Str)) :: r |>.map (·.2)).Nodup := h2
    have h3 : ((("" : Str), ("" : Str)) :: r).Pairwise (LikeP (farS d) (farS d2)) := h3
    rw [List.map_cons, List.nodup_cons] at h2
    rw [List.pairwise_cons] at h3
    have hin : ∀ c ∈ r, c.1 ∈ d.evs ∧ c.2 ∈ d2.evs := fun c hc => ⟨by rw [← e1]; exact List.mem_map_of_mem hc, (List.mem_filter.mp (hr c hc)).1⟩
    show r.map (·.1) = d.evs ∧ (r.map (·.2)).Perm d2.evs ∧ isB d d2 r = true
    refine ⟨e1, (List.perm_ext_iff_of_nodup h2.2 ok2.evs.nd).mpr fun y => ⟨fun hy => ?_, fun hy => ?_⟩, ?_⟩
    · obtain ⟨c, hc, rfl⟩ := List.mem_map.mp hy
      exact (hin c hc).2
    · rcases Classical.em (y ∈ r.map (·.2)) with z | z
      · exact z
      · have := nodup_le (xs := y :: r.map (·.2)) (ys := d2.evs) (List.nodup_cons.mpr ⟨z, h2.2⟩) fun x hx => by
          rcases List.mem_cons.mp hx with rfl | hx
          · exact hy
          · obtain ⟨c, hc, rfl⟩ := List.mem_map.mp hx
            exact (hin c hc).2
        rw [List.length_cons, List.length_map, ← hlen, ← e1, List.length_map] at this
        omega
    · have all := pw_all (R := LikeP (farS d) (farS d2)) (fun a b h => ⟨h.2, h.1⟩) h3.2 fun c hc => by
        obtain ⟨c1, c2⟩ := hin c hc
        refine ⟨?_, ?_⟩ <;> rw [far_selfS ok (List.mem_cons_of_mem _ c1), far_selfS ok2 (List.mem_cons_of_mem _ c2)]
      refine List.all_eq_true.mpr fun c hc => ?_
      rw [Bool.and_eq_true, List.all_eq_true]
      exact ⟨decide_eq_true (h3.1 c hc).2, fun k hk => decide_eq_true (all c hc k hk).2⟩

end
end Pk

set_option Elab.async false
set_option linter.all false
set_option maxRecDepth 100000
set_option maxHeartbeats 4000000
namespace Pk
open PySem PySem.Spec PyProof.Rows L2 Pu
abbrev s_law_right : Stmt := topS 59
theorem sc_law_right : FnScope ["_law_one", "_law_other", "_law_sure", "_law_first", "_law_second_here", "_law_told", "_law_leads_here", "_law_left", "_law_row"] ["_law_one", "_law_other", "_law_sure"] (defScope s_law_right) := ⟨rfl, rfl, rfl, by decide +kernel, rfl, by decide +kernel, by decide +kernel⟩

section
variable {P : Program} {w : World} {K : PySem.W.Frag} {mg : Str → Option Value} {base : Heap}
theorem pe_dictZLK {X : Cx} {e e2 : Expr} {ta : TA} {p p2 q pos : Pos} (K : PySem.W.Frag) (hg : Gl X "dict") (hm : X.mg "dict" = none) (hg2 : Gl X "zip") (hm2 : X.mg "zip" = none) (ha : PA X [e, e2] ta) (hc : X.calm = true := by rfl)
    (hs : starEach [e, e2] X.env = (false, eval e X.env) :: starEach [e2] X.env := by rfl) (hpl : (backTo q (starEach [e2] X.env)).any (·.1) = false := by rfl) (hK : X.K = K := by rfl) :
    PE X (.Call (.Name "dict" p) [.Call (.Name "zip" p2) [e, e2] [] q] [] pos) (tDictZL K ta) := by
  subst hK
  exact pe_dictZL hg hm hg2 hm2 ha hc hs hpl
/-! ### the law's look at one pair of plans -/
def spRight47 (K : PySem.W.Frag) (C : Addr) : Sp := fun vs H Q _ => ∃ (b m1 m2 : Addr) (d d2 : PlanD) (sure : Bool) (n : Int), vs = [.ref m1, .ref m2, .bl sure] ∧ ModAt b H m1 d ∧ ModAt b H m2 d2 ∧ PlanOk d ∧ PlanOk d2 ∧ (sure = true → ∃ σ τ, Iso d d2 σ τ) ∧ Box H b n ∧ ∀ H', Same H H' → Q (.bl true) H'
theorem ok_right47 {C f : Addr} {fd : FuncData} (F : Fun K "_law_right" "_law_right" s_law_right f fd) (T : Txt mg) (claw_plan : Cal P w K mg base 7 "_law_plan" (spPlanM K C) []) (crenaming : Cal P w K mg base 12 "renaming" (spRnm K C) []) (claw_leads : Cal P w K mg base 2 "_law_leads" spLawLeads []) (claw_orders : Cal P w K mg base 1 "_law_orders" spOrders []) (claw_is : Cal P w K mg base 1 "_law_is" spLawIs []) : FnOk P w K mg base CX0 13 f fd ["_law_one", "_law_other", "_law_sure"] (spRight47 K C) := by
  have nd := sc_law_right.nd
  refine F.ok sc_law_right (fun vs H Q E h => ?_) (fun cdv A outer s H vs Q E hr h => ?_)
  · obtain ⟨_, _, _, _, _, _, _, rfl, _⟩ := h
    rfl
  · obtain ⟨b, y1, y2, d, d2, sure, n, rfl, hM1, hM2, ok, ok2, hsure, hB, qq⟩ := h
    have hu := hu_of hr
    refine ⟨_, (pss_cons (ps_par (i := 3) (j := 4) rfl nd rfl rfl (by decide) rfl rfl (pa_cons (pe_c claw_plan hr (by decide) rfl (pa_cons (pv 0) pa_nil)) (pa_cons (pe_c claw_plan hr (by decide) rfl (pa_cons (pv 1) pa_nil)) pa_nil)) (by rfl))
      (pss_cons (ps_set (i := 5) nd rfl (Or.inl rfl) (pe_c crenaming hr (by decide) rfl (pa_cons (pv 3) (pa_cons (pv 4) pa_nil))))
      (pss_cons (ps_if (pt_cmpR op_notN (pv 5) pe_non (by rfl))
      (pss_cons (ps_expr (pe_dclear (pv 5)))
      (pss_one (ps_set (i := 5) nd rfl (Or.inl rfl) (pe_c crenaming hr (by decide) rfl (pa_cons (pv 3) (pa_cons (pv 4) pa_nil)))))) pss_nil)
      (pss_cons (ps_asg (pe_tup (pa_cons (pe_c claw_leads hr (by decide) rfl (pa_cons (pv 0) pa_nil)) (pa_cons (pe_c claw_leads hr (by decide) rfl (pa_cons (pv 1) pa_nil)) pa_nil))) (pg_tup rfl (pgs_cons (pg_name (i := 6) nd rfl (Or.inr rfl)) (pgs_cons (pg_name (i := 7) nd rfl (Or.inr rfl)) pgs_nil))))
      (pss_cons (ps_if (pt_cmpR op_isN (pv 5) pe_non (by rfl))
      (pss_cons (ps_if (pt_val (pv 2))
      (pss_one (ps_ret pe_bl)) pss_nil)
      (pss_cons (ps_if (PW.pt (pw_or (pt_cmpR op_ne (pe_callB (lenK K) (by rfl) T.m_len PySem.boot_len (pa_cons (pe_ix (ixL K) (pv 0) pe_int (fun _ _ => rfl)) pa_nil)) (pe_callB (lenK K) (by rfl) T.m_len PySem.boot_len (pa_cons (pe_ix (ixL K) (pv 1) pe_int (fun _ _ => rfl)) pa_nil)) (by rfl)) (pw_or1 (pt_cmpR op_gt (pe_callB (lenK K) (by rfl) T.m_len PySem.boot_len (pa_cons (pe_ix (ixL K) (pv 0) pe_int (fun _ _ => rfl)) pa_nil)) pe_int (by rfl)))))
      (pss_one (ps_ret pe_bl)) pss_nil)
      (pss_one (ps_ret (pe_cmpR (op_eqB K hr) (pe_lc (own := [("_law_row", 8)]) (g := gName 8) rfl nd (pi_list (pe_c claw_orders hr (by decide) rfl (pa_cons (pe_ix (ixL K) (pv 1) pe_int (fun _ _ => rfl)) pa_nil))) (blkOk_by (N := ["_law_one", "_law_other", "_law_sure", "_law_first", "_law_second_here", "_law_told", "_law_leads_here", "_law_left", "_law_row"]) (sc := defScope s_law_right) (by decide +kernel)) (fun _ _ _ _ _ => pg_name (i := 8) nd rfl (Or.inl rfl)) (fun _ _ _ _ _ => pts_one (pt_val (pe_c claw_is hr (by decide) rfl (pa_cons (by exact (pe_dictZLK K rfl T.m_dict rfl T.m_zip (pa_cons (pe_ix (ixL K) (pv 0) pe_int (fun _ _ => rfl)) (pa_cons (pv 8) pa_nil)))) (pa_cons (pv 6) (pa_cons (pv 7) pa_nil)))))) (fun _ _ _ _ _ => (pv 8))) (pe_lst pa_nil) (by rfl)))))) pss_nil)
      (pss_cons (ps_if (PW.pt (pw_or (pt_not (pt_val (pe_callB (isiK K) (by rfl) T.m_isinstance PyProof.Rows.boot_isinstance (pa_cons (pv 5) (pa_cons (pe_bltn (v := .ty "dict") rfl T.m_dict PyProof.Rows.boot_dict rfl) pa_nil))))) (pw_or1 (pt_cmpR (op_neB K hr) (pe_callB (call_sortedD rfl) (by rfl) T.m_sorted PyProof.Rows.boot_sorted (pa_cons (pv 5) pa_nil)) (pe_callB (srtS K) (by rfl) T.m_sorted PyProof.Rows.boot_sorted (pa_cons (pe_ix (ixL K) (pv 0) pe_int (fun _ _ => rfl)) pa_nil)) (by rfl)))))
      (pss_one (ps_ret pe_bl)) pss_nil)
      (pss_cons (ps_if (pt_cmpR (op_neB K hr) (pe_callB (srtS K) (by rfl) T.m_sorted PyProof.Rows.boot_sorted (pa_cons (pe_listVals rfl (pv 5) (by rfl) T.m_list) pa_nil)) (pe_callB (srtS K) (by rfl) T.m_sorted PyProof.Rows.boot_sorted (pa_cons (pe_ix (ixL K) (pv 1) pe_int (fun _ _ => rfl)) pa_nil)) (by rfl))
      (pss_one (ps_ret pe_bl)) pss_nil)
      (pss_one (ps_ret (pe_c claw_is hr (by decide) rfl (pa_cons (pv 5) (pa_cons (pv 6) (pa_cons (pv 7) pa_nil))))))))))))), ?_⟩
    have n8 := ok.evs.hi
    have m8 := ok2.evs.hi
    obtain ⟨e1, t1, c1, ts1, g1, g2, _⟩ := id hM1
    obtain ⟨e2, t2, c2, ts2, k1, k2, _⟩ := id hM2
    refine seq_st ?_
    refine ⟨_, rfl, b, y1, d, rfl, hM1, ok, fun p1 H1 s1 np1 hp1 => ⟨_, rfl, b, y2, d2, rfl, hM2.same s1, ok2, fun p2 H2 s2 np2 hp2 => ⟨_, _, rfl, ?_⟩⟩⟩
    have hp1 := hp1.same s2
    have s02 := Same.trans s1 s2
    clear s1 s2 np1 np2
    refine next_of ?_
    dsimp only
    refine seq_asg ?_
    refine ⟨_, rfl, _, rfl, p1, p2, d, d2, rfl, hp1, hp2, ok, ok2, fun v H3 s3 hv nv => ?_⟩
    have s03 := Same.trans s02 s3
    refine gname (seq_st ?_)
    refine ⟨_, rfl, rfl, _, rfl, ?_⟩
    cases hres : rnmD d d2 with
    | none =>
      have hvn : v = .non := by
        rcases hv with ⟨_, h⟩ | ⟨_, _, h, _⟩
        · exact h
        · rw [hres] at h; cases h
      subst hvn
      refine next_of ?_
      dsimp only
      refine seq_asg ?_
      refine ⟨_, rfl, y1, d, rfl, (hM1.same s03).mdA', ok, fun q1 H4 s4 nq1 hX1 => ⟨_, rfl, y2, d2, rfl, ((hM2.same s03).same s4).mdA', ok2, fun q2 H5 s5 nq2 hX2 => ⟨sz 2, fun TT nT => ⟨TT, _, rfl, .inl (.inl upd_same), rfl, _, _, rfl, _, _, rfl, rfl, ?_⟩⟩⟩⟩
      have s6 := same_upd nT (o := .tup [.ref q1, .ref q2])
      have hX1 := hX1.same (Same.trans s5 s6)
      have hX2 := hX2.same s6
      have s06 := Same.trans s03 (Same.trans s4 (Same.trans s5 s6))
      revert hX1 hX2 s06
      generalize upd H5 TT (.tup [.ref q1, .ref q2]) = H6
      intro hX1 hX2 s06
      have g1 := s06 _ _ g1
      have g2 := s06 _ _ g2
      have k1 := s06 _ _ k1
      have k2 := s06 _ _ k2
      refine seq_st ?_
      refine ⟨_, rfl, rfl, _, rfl, ?_⟩
      cases hs : sure with
      | true =>
        obtain ⟨σ, τ, hI⟩ := hsure hs
        have := rnm_some ok (hI.ren ok ok2)
        rw [hres] at this
        cases this
      | false =>
        refine iteT (seq_st ?_)
        refine ⟨_, rfl, _, rfl, next_of ?_⟩
        dsimp only
        refine seq_st ?_
        refine ⟨_, rfl, y1, _, ((0 : Nat) : Int), .ref e1, rfl, rfl, .inl (.inl g1), atI_nat rfl, .inl ⟨e1, _, rfl, .inl (.inl (.inl g2)), _, rfl, y2, _, ((0 : Nat) : Int), .ref e2, rfl, rfl, .inl (.inl k1), atI_nat rfl, .inl ⟨e2, _, rfl, .inl (.inl (.inl k2)), rfl, _, rfl, ?_⟩⟩⟩
        refine ite2 (fun _ => qq _ s06) (fun hl => ?_)
        have hlen : d.evs.length = d2.evs.length := by
          have hl := hl
          rw [List.length_map, List.length_map, dec_int] at hl
          rcases Nat.lt_trichotomy d.evs.length d2.evs.length with h | h | h
          · exact absurd (by rw [Bool.not_eq_true', beq_eq_false_iff_ne]; omega) hl
          · exact h
          · exact absurd (by rw [Bool.not_eq_true', beq_eq_false_iff_ne]; omega) hl
        refine ⟨_, rfl, y1, _, ((0 : Nat) : Int), .ref e1, rfl, rfl, .inl (.inl g1), atI_nat rfl, .inl ⟨e1, _, rfl, .inl (.inl (.inl g2)), _, _, rfl, rfl, _, rfl, ?_⟩⟩
        refine ite2 (fun _ => qq _ s06) (fun h4 => ?_)
        have h4 : d.evs.length ≤ 4 := by
          rcases Nat.lt_or_ge 4 d.evs.length with h | h
          · exact absurd (decide_eq_true (by rw [List.length_map]; omega)) h4
          · exact h
        refine next_of ?_
        dsimp only
        refine ⟨_, rfl, y2, _, ((0 : Nat) : Int), .ref e2, rfl, rfl, .inl (.inl k1), atI_nat rfl, e2, d2.evs, rfl, k2, by omega, fun l as rows H7 s7 kl hR hperm h24 => ⟨l, rfl, ⟨_, .inl (.inl kl)⟩, fun D nD => ?_⟩⟩
        have hno : ∀ row ∈ rows, isB d d2 (d.evs.zip row) = false := fun row hr => Bool.eq_false_iff.mpr fun h => by
          have := rnm_some ok (isB_ren ok ok2 hlen (hperm row hr) h)
          rw [hres] at this
          cases this
        refine lc_it (walk_list (K := K) (a := l) (xs := as.map V.ref)) (fun i H' => Same H7 H' ∧ H' D = some (.lst [])) ⟨same_upd nD, upd_same⟩ (fun i H' _ pv => .inl (.inl (pv.1 _ _ kl))) (fun i x H8' H8 hi pv yv => ?_) (fun H8 pv => ?_)
        · obtain ⟨rfl, hx⟩ := yv
          obtain ⟨s8, hD8⟩ := pv
          obtain ⟨a, row, rfl, _, hrow, ha⟩ := (hR.same s8).get hx
          have s78 := Same.trans s7 s8
          have hrm := List.mem_of_getElem? hrow
          have hrl := (hperm row hrm).length_eq
          refine ⟨rfl, _, rfl, y1, _, ((0 : Nat) : Int), .ref e1, rfl, rfl, .inl (.inl (s78 _ _ g1)), atI_nat rfl, _, rfl, e1, a, d.evs.map fun e => (Sum.inr e : Key), row.map V.str, rfl, .inl (.inl (by rw [List.map_map]; exact s78 _ _ g2)), .inl (.inl ha), by rw [List.length_map, List.length_map]; omega, by rw [List.length_map]; exact ok.evs.lo, by rw [List.length_map]; omega, fun tz ntz => ?_⟩
          rw [zipS_kvR, mergeS_nd (by rw [List.map_fst_zip (by omega)]; exact ok.evs.nd)]
          have s9 := same_upd ntz (o := .dK (kvR V.str (d.evs.zip row)))
          have s69 := Same.trans s78 s9
          refine ⟨_, rfl, _, rfl, tz, q1, q2, d, d2, d.evs.zip row, rfl, upd_same, by rw [List.map_fst_zip (by omega)]; exact ok.evs.nd, by rw [List.length_zip]; omega, hX1.same s69, hX2.same s69, fun c hc => ⟨(List.of_mem_zip hc).1, (hperm row hrm).mem_iff.mp (List.of_mem_zip hc).2⟩, fun H10 s10 => ?_⟩
          rw [hno row hrm]
          exact ⟨_, rfl, iteF ⟨Same.trans s8 (Same.trans s9 s10), s10 _ _ (s9 _ _ hD8)⟩⟩
        · obtain ⟨s8, hD8⟩ := pv
          refine ⟨sz 0, fun L nL => ?_⟩
          have s9 := same_upd nL (o := .lst [])
          refine ⟨1, _, by decide, empV_eq (s9 _ _ hD8) upd_same, ?_⟩
          exact qq _ (Same.trans s06 (Same.trans s7 (Same.trans s8 s9)))
    | some L =>
      obtain ⟨f1, f2, f3⟩ := rnm_right ok ok2 hres
      have fnd : (L.map (·.1)).Nodup := by rw [f1]; exact ok.evs.nd
      have flen : L.length = d.evs.length := by rw [← f1, List.length_map]
      rcases hv with ⟨h, _⟩ | ⟨a0, L0, h0, rfl, ha0⟩
      · rw [hres] at h; cases h
      have na0 := nv a0 rfl
      refine iteT (seq_st ?_)
      refine ⟨_, rfl, .inr (.inr (.inl ⟨rfl, .inl ⟨_, ha0⟩⟩)), a0, _, rfl, rfl, ha0, ?_⟩
      have s4 := same_put (o := .dK []) na0 s3
      have s04 := Same.trans s02 s4
      have hp1 := hp1.same s4
      have hp2 := hp2.same s4
      revert s4 s04 hp1 hp2
      generalize upd H3 a0 (.dK []) = H4
      intro s4 s04 hp1 hp2
      refine ⟨_, rfl, _, rfl, p1, p2, d, d2, rfl, hp1, hp2, ok, ok2, fun v H5 s5 hv nv => ?_⟩
      rcases hv with ⟨h, _⟩ | ⟨a, L1, h1, rfl, ha⟩
      · rw [hres] at h; cases h
      have e1 : L = L1 := by rw [hres] at h1; exact Option.some.inj h1
      subst e1
      have s05 := Same.trans s04 s5
      refine gname ?_
      dsimp only
      refine seq_asg ?_
      refine ⟨_, rfl, y1, d, rfl, (hM1.same s05).mdA', ok, fun q1 H6 s6 nq1 hX1 => ⟨_, rfl, y2, d2, rfl, ((hM2.same s05).same s6).mdA', ok2, fun q2 H7 s7 nq2 hX2 => ⟨sz 2, fun TT nT => ⟨TT, _, rfl, .inl (.inl upd_same), rfl, _, _, rfl, _, _, rfl, rfl, ?_⟩⟩⟩⟩
      have s8 := same_upd nT (o := .tup [.ref q1, .ref q2])
      have hX1 := hX1.same (Same.trans s7 s8)
      have hX2 := hX2.same s8
      have s58 := Same.trans s6 (Same.trans s7 s8)
      have s08 := Same.trans s05 s58
      have ha := s58 _ _ ha
      revert hX1 hX2 s08 ha
      generalize upd H7 TT (.tup [.ref q1, .ref q2]) = H8
      intro hX1 hX2 s08 ha
      have g1 := s08 _ _ g1
      have g2 := s08 _ _ g2
      have k1 := s08 _ _ k1
      have k2 := s08 _ _ k2
      refine seq_st ?_
      refine ⟨_, rfl, rfl, _, rfl, next_of ?_⟩
      dsimp only
      refine seq_st ?_
      refine ⟨_, rfl, _, _, _, _, _, rfl, .ty _, .base (.dK ha), kity true (by decide) (by decide) rfl, _, rfl, iteF ?_⟩
      refine ⟨_, rfl, a, _, L.map (·.1), rfl, .inl ha, ?_, by rw [List.length_map]; omega, fun ys p3 hy1 hy2 np3 => ?_⟩
      · unfold kvR
        rw [List.map_map, List.map_map]
        rfl
      have s9 := same_upd np3 (o := .lst (ys.map V.str))
      have kp3 : (upd H8 p3 (.lst (ys.map V.str))) p3 = some (.lst (ys.map V.str)) := upd_same
      revert s9 kp3
      generalize upd H8 p3 (.lst (ys.map V.str)) = H9
      intro s9 kp3
      refine ⟨_, rfl, y1, _, ((0 : Nat) : Int), .ref e1, rfl, rfl, .inl (.inl (s9 _ _ g1)), atI_nat rfl, e1, d.evs, rfl, .inl (.inl (s9 _ _ g2)), by omega, fun zs p4 hz1 hz2 np4 => ?_⟩
      have hyz : ys = zs := sorted_uniq hy2 hz2 (by rw [f1] at hy1; exact hy1.trans hz1.symm)
      subst hyz
      have s10 := same_upd np4 (o := .lst (ys.map V.str))
      refine ⟨1, true, by decide, strs_eq (.inl (.inl (s10 _ _ kp3))) (.inl (.inl upd_same)), _, rfl, next_of ?_⟩
      have s80 := Same.trans s9 s10
      revert s80
      generalize upd H9 p4 (.lst (ys.map V.str)) = H10
      intro s80
      clear s9 s10 kp3 np3 np4 hy1 hy2 hz1 hz2 ys H9
      dsimp only
      refine seq_st ?_
      refine ⟨_, rfl, a, _, rfl, s80 _ _ ha, fun l nl => ?_⟩
      have s9 := same_upd nl (o := .lst ((kvR V.str L).map fun kv => kv.2))
      have kl : (upd H10 l (.lst ((kvR V.str L).map fun kv => kv.2))) l = some (.lst ((L.map (·.2)).map V.str)) := by
        rw [upd_same]
        unfold kvR
        rw [List.map_map, List.map_map]
        rfl
      have sA := Same.trans s80 s9
      revert sA kl
      generalize upd H10 l (.lst ((kvR V.str L).map fun kv => kv.2)) = H11
      intro kl sA
      refine ⟨l, L.map (·.2), rfl, .inl (.inl kl), by rw [List.length_map]; omega, fun ys p3 hy1 hy2 np3 => ?_⟩
      have s9 := same_upd np3 (o := .lst (ys.map V.str))
      have kp3 : (upd H11 p3 (.lst (ys.map V.str))) p3 = some (.lst (ys.map V.str)) := upd_same
      have sB := Same.trans sA s9
      revert sB kp3
      generalize upd H11 p3 (.lst (ys.map V.str)) = H12
      intro kp3 sB
      refine ⟨_, rfl, y2, _, ((0 : Nat) : Int), .ref e2, rfl, rfl, .inl (.inl (sB _ _ k1)), atI_nat rfl, e2, d2.evs, rfl, .inl (.inl (sB _ _ k2)), by omega, fun zs p4 hz1 hz2 np4 => ?_⟩
      have hyz : ys = zs := sorted_uniq hy2 hz2 ((hy1.trans f2).trans hz1.symm)
      subst hyz
      have s10 := same_upd np4 (o := .lst (ys.map V.str))
      refine ⟨1, true, by decide, strs_eq (.inl (.inl (s10 _ _ kp3))) (.inl (.inl upd_same)), _, rfl, next_of ?_⟩
      have sC := Same.trans sB s10
      dsimp only
      refine ⟨_, rfl, _, rfl, _, rfl, a, q1, q2, d, d2, L, rfl, sC _ _ ha, fnd, by omega, hX1.same sC, hX2.same sC, fun c hc => ⟨by rw [← f1]; exact List.mem_map_of_mem hc, f2.mem_iff.mp (List.mem_map_of_mem hc)⟩, fun H' s' => ?_⟩
      rw [f3]
      exact qq _ (Same.trans s08 (Same.trans sC s'))

end
end Pk

set_option Elab.async false
set_option linter.all false
set_option maxRecDepth 100000
set_option maxHeartbeats 4000000
namespace Pk
open PySem PySem.Spec PyProof.Rows L2 Pu
abbrev s_law : Stmt := topS 60
theorem sc_law : FnScope ["_law_script", "_law_k", "_law_box_here", "_law_one", "_law_other", "_law_near", "_law_begin", "_law_end", "_law_lag_here", "_law_wide"] ["_law_script"] (defScope s_law) := ⟨rfl, rfl, rfl, by decide +kernel, rfl, by decide +kernel, by decide +kernel⟩

section
variable {P : Program} {w : World} {K : PySem.W.Frag} {mg : Str → Option Value} {base : Heap}
/-! ### the law -/
def spLaw (K : PySem.W.Frag) : Sp := fun vs H Q _ => ∃ (a : Addr) (ns : List Int), vs = [.ref a] ∧ SqL K H a (ns.map V.int) ∧ ns.length ≤ 63 ∧ ∀ H', Q (.bl true) H'
theorem seq_extP {H H' : Hp} {a b : Addr} {xs : List V} (h : SqL K H a xs) (hb : H b = none) (e : Pu.Ext b H H') : SqL K H' a xs := by
  rcases h with (h | ⟨o, h⟩) | h
  · exact .inl (.inl (e _ _ (ne_of_none h hb) h))
  · exact .inl (.inr ⟨o, e _ _ (ne_of_none h hb) h⟩)
  · exact .inr h
theorem ok_lag47 {d : PlanD} (ok : PlanOk d) {t : LRow} {r : List LRow} (h : d.ties = t :: r) : PlanOk ⟨d.evs, (t.1, t.2.1, t.2.2 + 1) :: r, d.caps⟩ := by
  have ht : t ∈ d.ties := by rw [h]; exact List.mem_cons_self ..
  have hr : ∀ u ∈ r, u ∈ d.ties := fun u hu => by rw [h]; exact List.mem_cons_of_mem _ hu
  refine ⟨ok.evs, by have := ok.tl; rw [h] at this; exact this, fun u hu => ?_, ok.cin, ok.cnd, ?_⟩
  · rcases List.mem_cons.mp hu with rfl | hu
    · obtain ⟨h1, h2, h3⟩ := ok.tin t ht
      exact ⟨h1, h2, by show 0 ≤ t.2.2 + 1; omega⟩
    · exact ok.tin u (hr u hu)
  · obtain ⟨ρ, hρ⟩ := ok.up
    refine ⟨ρ, fun u hu h0 => ?_⟩
    rcases List.mem_cons.mp hu with rfl | hu
    · have h3 := (ok.tin t ht).2.2
      have h0 : t.2.2 + 1 = 0 := h0
      omega
    · exact hρ u (hr u hu) h0
theorem putR_or {β : Type} {r : List (Str × β)} {k : Str} {v : β} {c : Str × β} (h : c ∈ putR r k v) : c = (k, v) ∨ c ∈ r := by
  induction r with
  | nil => exact .inl (List.mem_singleton.mp h)
  | cons x r ih =>
    have h : c ∈ (if x.1 = k then (k, v) :: r else x :: putR r k v) := h
    by_cases e : x.1 = k
    · rw [if_pos e] at h
      rcases List.mem_cons.mp h with h | h
      · exact .inl h
      · exact .inr (List.mem_cons_of_mem _ h)
    · rw [if_neg e] at h
      rcases List.mem_cons.mp h with h | h
      · exact .inr (h ▸ List.mem_cons_self ..)
      · exact (ih h).imp id (List.mem_cons_of_mem _)
theorem ok_cap {d : PlanD} (ok : PlanOk d) {k : Str} {n : Int} (hk : k ∈ d.evs) (hn : 0 ≤ n) : PlanOk ⟨d.evs, d.ties, putR d.caps k n⟩ :=
  ⟨ok.evs, ok.tl, ok.tin, fun c hc => by
    rcases putR_or hc with rfl | h
    · exact ⟨hk, hn⟩
    · exact ok.cin c h, putR_nd _ _ ok.cnd, ok.up⟩
theorem ok_wide {d : PlanD} (ok : PlanOk d) (h6 : d.evs.length ≤ 6) (hz : ("zzzy" : Str) ∉ d.evs) : PlanOk ⟨d.evs ++ [("zzzy" : Str)], d.ties, d.caps⟩ := by
  refine ⟨⟨?_, ?_, fun e he => ?_, ?_⟩, ok.tl, fun t ht => ?_, fun c hc => ?_, ok.cnd, ok.up⟩
  · show 1 ≤ (d.evs ++ [("zzzy" : Str)]).length
    rw [List.length_append]
    show 1 ≤ d.evs.length + 1
    omega
  · show (d.evs ++ [("zzzy" : Str)]).length ≤ 8
    rw [List.length_append]
    show d.evs.length + 1 ≤ 8
    omega
  · rcases List.mem_append.mp he with he | he
    · exact ok.evs.nm e he
    · rw [List.mem_singleton.mp he]
      decide
  · exact List.nodup_append.mpr ⟨ok.evs.nd, List.nodup_cons.mpr ⟨List.not_mem_nil, List.nodup_nil⟩, fun a ha b hb e => hz (by rw [← List.mem_singleton.mp hb, ← e]; exact ha)⟩
  · obtain ⟨h1, h2, h3⟩ := ok.tin t ht
    exact ⟨List.mem_append_left _ h1, List.mem_append_left _ h2, h3⟩
  · obtain ⟨h1, h2⟩ := ok.cin c hc
    exact ⟨List.mem_append_left _ h1, h2⟩
theorem cut_m8 {xs : List V} (h : xs.length ≤ 8) : cutV xs (some (-8)) none = xs := by
  unfold cutV
  have e : HT.sIx xs.length 0 (some (-8)) = 0 := by
    show (if (-8 : Int) < 0 then ((-8 : Int) + (xs.length : Int)).toNat else min (-8 : Int).toNat xs.length) = 0
    rw [if_pos (by decide)]
    omega
  rw [e, HT.sIx_none, List.drop_zero, Nat.sub_zero, List.take_length]
theorem ok_law {C f : Addr} {fd : FuncData} (F : Fun K "law" "law" s_law f fd) (T : Txt mg) (claw_cell : Cal P w K mg base 1 "_law_cell" (Pu.spCell K) []) (claw_box : Cal P w K mg base 1 "_law_box" spBox []) (claw_take : Cal P w K mg base 1 "_law_take" spTake [])
    (claw_model : Cal P w K mg base 3 "_law_model" spModel []) (claw_second : Cal P w K mg base 5 "_law_second" spSec47 []) (claw_plan : Cal P w K mg base 7 "_law_plan" (spPlanM K C) []) (crenaming : Cal P w K mg base 12 "renaming" (spRnm K C) []) (claw_right : Cal P w K mg base 13 "_law_right" (spRight47 K C) []) :
    FnG P w K mg base CX0 14 f fd ["_law_script"] (spLaw K) := by
  have nd := sc_law.nd
  refine fnG F sc_law (fun vs H Q E h => ?_) (fun cdv A outer s H vs Q E hG hr h => ?_)
  · obtain ⟨_, _, rfl, _⟩ := h
    rfl
  · obtain ⟨a, ns, rfl, hS, hn, qq⟩ := h
    have hu := hu_of hr
    refine ⟨_, (pss_cons (ps_for PassesOwn.never rfl (pi_range1 rfl T.m_range (pa_cons (pe_callB (call_max2 rfl) (by rfl) T.m_max PyProof.Rows.boot_max (pa_cons pe_int (pa_cons (pe_callB (call_min2 rfl) (by rfl) T.m_min PyProof.Rows.boot_min (pa_cons pe_int (pa_cons (pe_callB (lenK K) (by rfl) T.m_len PySem.boot_len (pa_cons (pv 0) pa_nil)) pa_nil))) pa_nil))) pa_nil)) (pg_name (i := 1) nd rfl (Or.inl rfl))
      (pss_cons (ps_set (i := 2) nd rfl (Or.inl rfl) (pe_c claw_box hr (by decide) rfl (pa_cons (pe_c claw_cell hr (by decide) rfl (pa_cons (pv 0) (pa_cons (pv 1) pa_nil))) pa_nil)))
      (pss_cons (ps_set (i := 3) nd rfl (Or.inl rfl) (pe_c claw_model hr (by decide) rfl (pa_cons (pv 2) (pa_cons (pe_op oAdd pe_int (pe_c claw_take hr (by decide) rfl (pa_cons (pv 2) (pa_cons (pe_ix (ixL K) (pe_lst (pa_cons pe_int (pa_cons pe_int (pa_cons pe_int pa_nil)))) (pe_c claw_take hr (by decide) rfl (pa_cons (pv 2) (pa_cons pe_int pa_nil))) (fun _ _ => rfl)) pa_nil)))) (pa_cons pe_int pa_nil)))))
      (pss_cons (ps_set (i := 4) nd rfl (Or.inl rfl) (pe_c claw_second hr (by decide) rfl (pa_cons (pv 2) (pa_cons (pv 3) pa_nil))))
      (pss_cons (ps_if (PW.pt (pw_or (pt_not (pt_val (pe_c claw_right hr (by decide) rfl (pa_cons (pv 3) (pa_cons (pv 4) (pa_cons pe_bl pa_nil)))))) (pw_or1 (pt_not (pt_val (pe_c claw_right hr (by decide) rfl (pa_cons (pv 4) (pa_cons (pv 3) (pa_cons pe_bl pa_nil)))))))))
      (pss_one (ps_ret pe_bl)) pss_nil)
      (pss_cons (ps_if (pt_cmpR op_gt (pe_callB (lenK K) (by rfl) T.m_len PySem.boot_len (pa_cons (pe_ix (ixL K) (pv 3) pe_int (fun _ _ => rfl)) pa_nil)) pe_int (by rfl))
      (pss_one ps_continue) pss_nil)
      (pss_cons (ps_set (i := 5) nd rfl (Or.inl rfl) (pe_lst (pa_cons (pe_ix (ixL K) (pv 4) pe_int (fun _ _ => rfl)) (pa_cons (pe_callTy call_list_of (by rfl) T.m_list PyProof.Rows.boot_list (pa_cons (pe_ix (ixL K) (pv 4) pe_int (fun _ _ => rfl)) pa_nil)) (pa_cons (pe_callTy call_dictD (by rfl) T.m_dict PyProof.Rows.boot_dict (pa_cons (pe_ix (ixL K) (pv 4) pe_int (fun _ _ => rfl)) pa_nil)) pa_nil)))))
      (pss_cut (ps_if (PW.pt (pw_and (pt_cmpR (op_neB K hr) (pe_ix (ixL K) (pv 5) pe_int (fun _ _ => rfl)) (pe_lst pa_nil) (by rfl)) (pw_and1 (pt_cmpR op_eq (pe_c claw_take hr (by decide) rfl (pa_cons (pv 2) (pa_cons pe_int pa_nil))) pe_int (by rfl)))))
      (pss_cons (ps_asg (pe_ix (ixL K) (pe_ix (ixL K) (pv 5) pe_int (fun _ _ => rfl)) pe_int (fun _ _ => rfl)) (pg_tup rfl (pgs_cons (pg_name (i := 6) nd rfl (Or.inl rfl)) (pgs_cons (pg_name (i := 7) nd rfl (Or.inl rfl)) (pgs_cons (pg_name (i := 8) nd rfl (Or.inl rfl)) pgs_nil)))))
      (pss_one (ps_asg (pe_tup (pa_cons (pv 6) (pa_cons (pv 7) (pa_cons (pe_op oAdd (pv 8) pe_int) pa_nil)))) (pg_sub (pe_ix (ixL K) (pv 5) pe_int (fun _ _ => rfl)) pe_int set_list)))) (pss_one (ps_dput hu (pe_ix (ixL K) (pv 5) pe_int (fun _ _ => rfl)) (pe_ix (ixL K) (pe_ix (ixL K) (pv 5) pe_int (fun _ _ => rfl)) pe_int (fun _ _ => rfl)) (pe_c claw_take hr (by decide) rfl (pa_cons (pv 2) (pa_cons pe_int pa_nil))) rfl)))
      (pss_cons (ps_if (PW.pt (pw_or (pt_not (pt_val (pe_c claw_right hr (by decide) rfl (pa_cons (pv 3) (pa_cons (pv 5) (pa_cons pe_bl pa_nil)))))) (pw_or1 (pt_not (pt_val (pe_c claw_right hr (by decide) rfl (pa_cons (pv 5) (pa_cons (pv 3) (pa_cons pe_bl pa_nil)))))))))
      (pss_one (ps_ret pe_bl)) pss_nil)
      (pss_cons (ps_set (i := 9) nd rfl (Or.inl rfl) (pe_lst (pa_cons (pe_slice (slL K) (pe_op oAdd (pe_ix (ixL K) (pv 3) pe_int (fun _ _ => rfl)) (pe_lst (pa_cons pe_str pa_nil))) (po_some (pe_un un_neg pe_int)) po_none) (pa_cons (pe_ix (ixL K) (pv 3) pe_int (fun _ _ => rfl)) (pa_cons (pe_ix (ixL K) (pv 3) pe_int (fun _ _ => rfl)) pa_nil)))))
      (pss_one (ps_if (PW.pt (pw_and (pt_cmpR (oNotIn K) pe_str (pe_ix (ixL K) (pv 3) pe_int (fun _ _ => rfl)) (by rfl)) (pw_and (pt_cmpR op_lt (pe_callB (lenK K) (by rfl) T.m_len PySem.boot_len (pa_cons (pe_ix (ixL K) (pv 3) pe_int (fun _ _ => rfl)) pa_nil)) pe_int (by rfl)) (pw_and1 (pt_cmpR op_notN (pe_c crenaming hr (by decide) rfl (pa_cons (pe_c claw_plan hr (by decide) rfl (pa_cons (pv 3) pa_nil)) (pa_cons (pe_c claw_plan hr (by decide) rfl (pa_cons (pv 9) pa_nil)) pa_nil))) pe_non (by rfl))))))
      (pss_one (ps_ret pe_bl)) pss_nil))))))))))))
      (pss_one (ps_ret pe_bl))), ?_⟩
    refine ⟨_, rfl, .inl ⟨a, _, rfl, .inl hS, _, _, rfl, _, _, rfl, _, rfl, ?_, ?_, ?_⟩⟩
    · split <;> split <;> omega
    · split <;> split <;> omega
    refine for_range (fun i σ H' => SqL K H' a (ns.map V.int) ∧ ∃ v1 v2 v3 v4 v5 v6 v7 v8 v9, σ = [some (.ref a), v1, v2, v3, v4, v5, v6, v7, v8, v9]) ⟨hS, _, _, _, _, _, _, _, _, _, rfl⟩ (fun i σ H1 hi h => ?_) (fun σ H1 h => qq _)
    obtain ⟨hS1, v1, v2, v3, v4, v5, v6, v7, v8, v9, rfl⟩ := h
    refine gname (seq_asg ?_)
    refine ⟨_, rfl, _, rfl, a, ns, i, by rw [Int.zero_add]; rfl, hS1, fun x => ⟨x, rfl, fun b H2 nb B2 e2 => ?_⟩⟩
    have E2 : Pu.Ext b H1 H2 := fun c o hc h => by rw [e2 c hc]; exact h
    refine gname (seq_asg ?_)
    refine ⟨_, rfl, _, rfl, sz 3, fun Lq nLq => ?_⟩
    have sq := same_upd nLq (o := .lst [.int 4, .int 6, .int 8])
    have kq : (upd H2 Lq (.lst [.int 4, .int 6, .int 8])) Lq = some (.lst [.int 4, .int 6, .int 8]) := upd_same
    have Bq := B2.same sq
    have hqb : Lq ≠ b := (B2.ne nLq).symm
    revert sq kq Bq
    generalize upd H2 Lq (.lst [.int 4, .int 6, .int 8]) = H2q
    intro sq kq Bq
    refine ⟨_, rfl, b, 3, 0, rfl, by decide, by decide, by decide, Bq, fun d0 H3 g1 g2 B3 x3 => ?_⟩
    obtain ⟨u, hu1, hu2, hu3⟩ : ∃ u : Int, atI [V.int 4, .int 6, .int 8] d0 = some (.int u) ∧ 4 ≤ u ∧ u ≤ 8 := by
      obtain ⟨v, hv, hm⟩ := pickN (xs := [V.int 4, .int 6, .int 8]) g1 (by exact g2)
      simp only [List.mem_cons, List.not_mem_nil, or_false] at hm
      rcases hm with rfl | rfl | rfl
      · exact ⟨4, hv, by decide, by decide⟩
      · exact ⟨6, hv, by decide, by decide⟩
      · exact ⟨8, hv, by decide, by decide⟩
    refine ⟨Lq, _, d0, _, rfl, rfl, .inl (.inl (x3 _ _ hqb kq)), hu1, b, u, 0 + 1, rfl, by omega, by omega, by decide, B3, fun d1 H4 g3 g4 B4 x4 => ?_⟩
    obtain ⟨m0, rfl⟩ := Int.eq_ofNat_of_zero_le g3
    have E4 := ((E2.trans (same_ext sq)).trans x3).trans x4
    refine .inl ⟨1, (m0 : Nat), rfl, rfl, b, 1 + m0, 8, 0 + 1 + 1, (by show [V.ref b, V.int (1 + ((m0 : Nat) : Int)), V.int 8] = _; rw [show (1 : Int) + (m0 : Nat) = ((1 + m0 : Nat) : Int) by omega]; rfl), by omega, by omega, by decide, by decide, B4, fun y d H5 B5 x5 ny hM hL => ?_⟩
    have E5 := E4.trans x5
    have ok := hL.ok
    have ht8 := hL.tl
    have hlen := hL.len
    clear kq sq Bq x3 x4 B3 B4 E2 E4 B2 hu1 g1 g2
    refine gname (seq_asg ?_)
    refine ⟨_, rfl, _, rfl, b, y, d, 0 + 1 + 1 + 600, rfl, hM, ok, ht8, by decide, B5, fun q d2 H6 σ τ B6 x6 nq hM2 ok2 t16 hl2 hI => ?_⟩
    have E6 := E5.trans x6
    have hM1 := hM.ext x6
    refine gname (seq_st ?_)
    refine ⟨_, rfl, _, rfl, b, y, q, d, d2, true, _, rfl, hM1, hM2, ok, ok2, fun _ => ⟨σ, τ, hI⟩, B6, fun H7 s7 => ⟨_, rfl, iteF ?_⟩⟩
    have hM1 := hM1.same s7
    have hM2 := hM2.same s7
    refine ⟨_, rfl, _, rfl, b, q, y, d2, d, true, _, rfl, hM2, hM1, ok2, ok, fun _ => ⟨τ, σ, hI.symm⟩, B6.same s7, fun H8 s8 => ⟨_, rfl, next_of ?_⟩⟩
    have hM1 := hM1.same s8
    have hM2 := hM2.same s8
    have s78 := Same.trans s7 s8
    have B8 := B6.same s78
    have E8 := E6.trans (same_ext s78)
    clear s7 s8 s78 B6 E6 E5 x5 x6 B5 nq hM
    dsimp only
    refine seq_st ?_
    obtain ⟨e1, t1, c1, ts1, h1, h2, h3, h4, h5, n1, n2, n3, n4, n5⟩ := id hM1
    refine ⟨_, rfl, y, _, ((0 : Nat) : Int), .ref e1, rfl, rfl, .inl (.inl h1), atI_nat rfl, .inl ⟨e1, _, rfl, .inl (.inl (.inl h2)), _, _, rfl, rfl, _, rfl, ite2 (fun _ => ?_) (fun h6 => ?_)⟩⟩
    · exact ⟨seq_extP hS1 nb E8, _, _, _, _, _, _, _, _, _, rfl⟩
    have hlo : d.evs.length ≤ 6 := by
      rcases Nat.lt_or_ge 6 d.evs.length with h | h
      · exact absurd (decide_eq_true (by rw [List.length_map]; omega)) h6
      · exact h
    refine next_of ?_
    dsimp only
    refine seq_asg ?_
    obtain ⟨e2, t2, c2, ts2, k1, k2, k3, k4, k5, m1, m2, m3, m4, m5⟩ := id hM2
    refine ⟨_, rfl, q, _, ((0 : Nat) : Int), .ref e2, rfl, rfl, .inl (.inl k1), atI_nat rfl, _, rfl, q, _, ((1 : Nat) : Int), .ref t2, rfl, rfl, .inl (.inl k1), atI_nat rfl, t2, ts2.map V.ref, rfl, .inl (.inl (.inl k3)), fun l nl => ?_⟩
    have s9 := same_upd nl (o := .lst (ts2.map V.ref))
    have kl : (upd H8 l (.lst (ts2.map V.ref))) l = some (.lst (ts2.map V.ref)) := upd_same
    revert s9 kl
    generalize upd H8 l (.lst (ts2.map V.ref)) = H9
    intro s9 kl
    refine ⟨_, rfl, q, _, ((2 : Nat) : Int), .ref c2, rfl, rfl, .inl (.inl (s9 _ _ k1)), atI_nat rfl, c2, _, rfl, .inl (s9 _ _ k5), fun c nc => ⟨sz 3, fun m nm => ?_⟩⟩
    have lb : l ≠ b := (B8.ne nl).symm
    have cb : c ≠ b := ((B8.same s9).ne nc).symm
    have mb : m ≠ b := by
      have := (B8.same (Same.trans s9 (same_upd nc (o := .dK (capsV d2.caps))))).ne nm
      exact this.symm
    have nc8 : H8 c = none := s9.free nc
    have s10 := Same.trans (same_upd nc (o := .dK (capsV d2.caps))) (same_upd nm (o := .lst [.ref e2, .ref l, .ref c]))
    have kc : (upd (upd H9 c (.dK (capsV d2.caps))) m (.lst [.ref e2, .ref l, .ref c])) c = some (.dK (capsV d2.caps)) := same_upd nm (o := .lst [.ref e2, .ref l, .ref c]) _ _ upd_same
    have km : (upd (upd H9 c (.dK (capsV d2.caps))) m (.lst [.ref e2, .ref l, .ref c])) m = some (.lst [.ref e2, .ref l, .ref c]) := upd_same
    have hml : m ≠ l := fun z => by
      have := same_upd nc (o := .dK (capsV d2.caps)) _ _ kl
      rw [z, this] at nm
      cases nm
    have kl := s10 _ _ kl
    have s8a := Same.trans s9 s10
    revert s8a kc km kl
    generalize upd (upd H9 c (.dK (capsV d2.caps))) m (.lst [.ref e2, .ref l, .ref c]) = Ha
    intro kc km kl s8a
    clear s9 s10 nc nm
    have Ba := B8.same s8a
    have ka2 := s8a _ _ k2
    have kaT := k4.same s8a
    have hcl : c ≠ l := fun z => by rw [z, kl] at kc; cases kc
    refine gname ?_
    refine ⟨fun σ' H' => ∃ d3 v6 v7 v8, Box H' b (0 + 1 + 1 + 600 + 100 + 2) ∧ Pu.Ext b H8 H' ∧ ModAt b H' m d3 ∧ PlanOk d3 ∧ σ' = [some (.ref a), some (.int (0 + (i : Nat))), some (.ref b), some (.ref y), some (.ref q), some (.ref m), v6, v7, v8, v9], ?_, ?_⟩
    · obtain ⟨k0, er, hev⟩ : ∃ k0 er, d2.evs = k0 :: er := List.exists_cons_of_ne_nil fun z => by
        have := ok2.evs.lo
        rw [z] at this
        cases this
      refine ⟨_, rfl, m, _, ((1 : Nat) : Int), .ref l, rfl, rfl, .inl (.inl km), atI_nat rfl, sz 0, fun L nL => ?_⟩
      have sL := same_upd nL (o := .lst [])
      refine ⟨1, _, by decide, empV_eq (sL _ _ kl) upd_same, _, rfl, ?_⟩
      have xx : Pu.Ext b Ha (upd Ha L (.lst [])) := same_ext sL
      have Bx := (Ba.same sL).mono (show 0 + 1 + 1 + 600 + 100 ≤ (0 + 1 + 1 + 600 + 100 : Int) by decide)
      revert xx Bx
      generalize upd Ha L (.lst []) = Hx
      intro xx Bx
      rw [if_pos rfl]
      refine ite2 (fun hne => ?_) (fun _ => ?_)
      · refine ⟨_, rfl, b, 2, _, rfl, by decide, by decide, by decide, Bx, fun dd Hz g1 g2 Bz xz => ⟨rfl, _, rfl, ite2 (fun _ => ?_) (fun _ => ?_)⟩⟩
        · dsimp only
          have xx := xx.trans xz
          have kcx := xx _ _ cb kc
          have kmx := xx _ _ mb km
          have kex := xx _ _ m2 ka2
          have klx := xx _ _ lb kl
          have kTx : TiesAt Hz ts2 d2.ties := kaT.keep fun u hu r hr => xx _ _ (m5 u hu) hr
          obtain ⟨u0, ur, t0, tr, hts, hti, hu0⟩ : ∃ u0 ur t0 tr, ts2 = u0 :: ur ∧ d2.ties = t0 :: tr ∧ Hz u0 = some (.tup (rowV t0)) := by
            have hlen2 := kTx.length
            obtain ⟨u0, ur, hts⟩ : ∃ u0 ur, ts2 = u0 :: ur := List.exists_cons_of_ne_nil fun z => by
              rw [z] at hne
              cases hne
            rw [hts] at hlen2
            obtain ⟨t0, tr, hti⟩ : ∃ t0 tr, d2.ties = t0 :: tr := List.exists_cons_of_ne_nil fun z => by
              rw [z] at hlen2
              cases hlen2
            refine ⟨u0, ur, t0, tr, hts, hti, ?_⟩
            rw [hts, hti] at kTx
            unfold TiesAt at kTx
            cases kTx with
            | cons h _ => exact h
          refine seq_asg ?_
          refine ⟨_, rfl, m, _, ((1 : Nat) : Int), .ref l, rfl, rfl, .inl (.inl kmx), atI_nat rfl, l, _, ((0 : Nat) : Int), .ref u0, rfl, rfl, .inl (.inl klx), by rw [hts]; exact atI_nat rfl, u0, _, rfl, .inl (.inl hu0), rfl, _, _, rfl, _, _, rfl, _, _, rfl, rfl, ?_⟩
          refine ⟨_, rfl, _, rfl, _, rfl, .inl ⟨_, _, rfl, rfl, sz 3, fun nt nnt => ?_⟩⟩
          have snt := same_upd nnt (o := .tup [.str t0.1, .str t0.2.1, .int (t0.2.2 + 1)])
          have kn : (upd Hz nt (.tup [.str t0.1, .str t0.2.1, .int (t0.2.2 + 1)])) nt = some (.tup (rowV (t0.1, t0.2.1, t0.2.2 + 1))) := upd_same
          have kcx := snt _ _ kcx
          have kmx := snt _ _ kmx
          have kex := snt _ _ kex
          have klx' := snt _ _ klx
          have kTx := kTx.same snt
          have hnl : nt ≠ l := fun z => by rw [z, klx] at nnt; cases nnt
          have hnb : nt ≠ b := (Bz.ne nnt).symm
          have Bn := Bz.new nnt (o := .tup [.str t0.1, .str t0.2.1, .int (t0.2.2 + 1)])
          have xn : Pu.Ext b H8 (upd Hz nt (.tup [.str t0.1, .str t0.2.1, .int (t0.2.2 + 1)])) := fun u o hub hu => snt _ _ (xx _ _ hub (s8a _ _ hu))
          have nl8 : H8 l = none := nl
          revert kn kcx kmx kex klx' kTx Bn xn
          generalize upd Hz nt (.tup [.str t0.1, .str t0.2.1, .int (t0.2.2 + 1)]) = Hn
          intro kn kcx kmx kex klx' kTx Bn xn
          refine ⟨_, rfl, m, _, ((1 : Nat) : Int), .ref l, rfl, rfl, .inl (.inl kmx), atI_nat rfl, l, _, 0, 0, rfl, rfl, klx', by rw [hts]; unfold ixN; rw [if_pos (by decide), if_pos (by rw [List.length_map]; show (0 : Int) < ((ur.length + 1 : Nat) : Int); omega)]; rfl, ?_⟩
          have hml' : ∀ {u o}, Hn u = some o → (∀ xs, o ≠ .lst xs) → u ≠ l := fun {u o} h hne z => by
            rw [z, klx'] at h
            exact hne _ (Option.some.inj h).symm
          have kp : ∀ {u o}, Hn u = some o → u ≠ l → (upd Hn l (.lst ((ts2.map V.ref).set 0 (.ref nt)))) u = some o := fun {u o} h hne => by
            rw [upd_ne hne]
            exact h
          have hur : ∀ u ∈ ur, u ∈ ts2 := fun u hu => by rw [hts]; exact List.mem_cons_of_mem _ hu
          refine ⟨⟨d2.evs, (t0.1, t0.2.1, t0.2.2 + 1) :: tr, d2.caps⟩, _, _, _, (Bn.mono (by decide)).upd lb.symm, fun u o hub hu => kp (xn _ _ hub hu) (fun z => by rw [z, nl8] at hu; cases hu), ⟨e2, l, c, nt :: ur, kp kmx hml, kp kex (ne_of_none k2 nl8), ?_, ?_, kp kcx hcl, mb, m2, lb, cb, ?_⟩, ok_lag47 ok2 hti, rfl⟩
          · rw [upd_same, hts]
            rfl
          · refine .cons (kp kn hnl) ?_
            have kTx := kTx
            rw [hts, hti] at kTx
            unfold TiesAt at kTx
            cases kTx with
            | cons _ h => exact TiesAt.keep h fun u hu r hr => kp hr (fun z => by rw [z, klx'] at hr; cases hr)
          · intro u hu
            rcases List.mem_cons.mp hu with rfl | hu
            · exact hnb
            · exact m5 u (hur u hu)
        · dsimp only
          have xx := xx.trans xz
          have kcx := xx _ _ cb kc
          have kmx := xx _ _ mb km
          have kex := xx _ _ m2 ka2
          have klx := xx _ _ lb kl
          have kTx : TiesAt Hz ts2 d2.ties := kaT.keep fun u hu r hr => xx _ _ (m5 u hu) hr
          refine ⟨_, rfl, b, 5, _, rfl, by decide, by decide, by decide, Bz, fun v Hy g1 g2 By xy => ?_⟩
          have kcy := xy _ _ cb kcx
          have kmy := xy _ _ mb kmx
          have key := xy _ _ m2 kex
          have kly := xy _ _ lb klx
          have kTy : TiesAt Hy ts2 d2.ties := kTx.keep fun u hu r hr => xy _ _ (m5 u hu) hr
          refine ⟨_, rfl, m, _, ((2 : Nat) : Int), .ref c, rfl, rfl, .inl (.inl kmy), atI_nat rfl, _, rfl, m, _, ((0 : Nat) : Int), .ref e2, rfl, rfl, .inl (.inl kmy), atI_nat rfl, e2, _, ((0 : Nat) : Int), .str k0, rfl, rfl, .inl (.inl key), by rw [hev]; exact atI_nat rfl, c, _, rfl, .inl ⟨capsV d2.caps, .inr k0, kcy, rfl, ?_, rfl⟩, ?_⟩
          · show (List.map _ _).length < _
            rw [List.length_map]
            exact Nat.lt_of_le_of_lt (caps_len ok2) (Nat.lt_of_lt_of_le (by decide) (sz 100))
          have kp : ∀ {u o}, Hy u = some o → (∀ kvs, o ≠ .dK kvs) → (upd Hy c (.dK (putK (capsV d2.caps) (.inr k0) (.int v)))) u = some o := fun {u o} h hne => by
            rw [upd_ne]
            · exact h
            · intro z
              rw [z, kcy] at h
              exact hne _ (Option.some.inj h).symm
          refine ⟨⟨d2.evs, d2.ties, putR d2.caps k0 v⟩, _, _, _, (By.mono (by decide)).upd cb.symm, fun u o hub hu => ?_, ⟨e2, l, c, ts2, kp kmy (fun _ z => by cases z), kp key (fun _ z => by cases z), kp kly (fun _ z => by cases z), kTy.keep fun u _ r hr => kp hr (fun _ z => by cases z), ?_, mb, m2, lb, cb, m5⟩, ok_cap ok2 (by rw [hev]; exact List.mem_cons_self ..) g1, rfl⟩
          · rw [upd_ne (fun z => by rw [z, nc8] at hu; cases hu)]
            exact xy _ _ hub (xx _ _ hub (s8a _ _ hu))
          · rw [upd_same]
            exact congrArg (fun z => some (HO.dK z)) (putK_kvR V.int ok2.cnd)
      · dsimp only
        have kcx := xx _ _ cb kc
        have kmx := xx _ _ mb km
        have kex := xx _ _ m2 ka2
        have klx := xx _ _ lb kl
        have kTx : TiesAt Hx ts2 d2.ties := kaT.keep fun u hu r hr => xx _ _ (m5 u hu) hr
        refine ⟨_, rfl, b, 5, _, rfl, by decide, by decide, by decide, Bx, fun v Hy g1 g2 By xy => ?_⟩
        have kcy := xy _ _ cb kcx
        have kmy := xy _ _ mb kmx
        have key := xy _ _ m2 kex
        have kly := xy _ _ lb klx
        have kTy : TiesAt Hy ts2 d2.ties := kTx.keep fun u hu r hr => xy _ _ (m5 u hu) hr
        refine ⟨_, rfl, m, _, ((2 : Nat) : Int), .ref c, rfl, rfl, .inl (.inl kmy), atI_nat rfl, _, rfl, m, _, ((0 : Nat) : Int), .ref e2, rfl, rfl, .inl (.inl kmy), atI_nat rfl, e2, _, ((0 : Nat) : Int), .str k0, rfl, rfl, .inl (.inl key), by rw [hev]; exact atI_nat rfl, c, _, rfl, .inl ⟨capsV d2.caps, .inr k0, kcy, rfl, ?_, rfl⟩, ?_⟩
        · show (List.map _ _).length < _
          rw [List.length_map]
          exact Nat.lt_of_le_of_lt (caps_len ok2) (Nat.lt_of_lt_of_le (by decide) (sz 100))
        have kp : ∀ {u o}, Hy u = some o → (∀ kvs, o ≠ .dK kvs) → (upd Hy c (.dK (putK (capsV d2.caps) (.inr k0) (.int v)))) u = some o := fun {u o} h hne => by
          rw [upd_ne]
          · exact h
          · intro z
            rw [z, kcy] at h
            exact hne _ (Option.some.inj h).symm
        refine ⟨⟨d2.evs, d2.ties, putR d2.caps k0 v⟩, _, _, _, (By.mono (by decide)).upd cb.symm, fun u o hub hu => ?_, ⟨e2, l, c, ts2, kp kmy (fun _ z => by cases z), kp key (fun _ z => by cases z), kp kly (fun _ z => by cases z), kTy.keep fun u _ r hr => kp hr (fun _ z => by cases z), ?_, mb, m2, lb, cb, m5⟩, ok_cap ok2 (by rw [hev]; exact List.mem_cons_self ..) g1, rfl⟩
        · rw [upd_ne (fun z => by rw [z, nc8] at hu; cases hu)]
          exact xy _ _ hub (xx _ _ hub (s8a _ _ hu))
        · rw [upd_same]
          exact congrArg (fun z => some (HO.dK z)) (putK_kvR V.int ok2.cnd)
    · rintro σ' H11 ⟨d3, w6, w7, w8, B11, x11, hM3, ok3, rfl⟩
      have hM1' := hM1.ext x11
      refine seq_st ?_
      refine ⟨_, rfl, _, rfl, b, y, m, d, d3, false, _, rfl, hM1', hM3, ok, ok3, (fun z => by cases z), B11, fun H12 s12 => ⟨_, rfl, iteF ?_⟩⟩
      refine ⟨_, rfl, _, rfl, b, m, y, d3, d, false, _, rfl, hM3.same s12, hM1'.same s12, ok3, ok, (fun z => by cases z), B11.same s12, fun H13 s13 => ⟨_, rfl, next_of ?_⟩⟩
      dsimp only
      have x13 : Pu.Ext b H8 H13 := x11.trans (same_ext (Same.trans s12 s13))
      have hM1'' := hM1.ext x13
      have h1 := x13 _ _ n1 h1
      have h2 := x13 _ _ n2 h2
      refine seq_asg ?_
      refine ⟨_, rfl, y, _, ((0 : Nat) : Int), .ref e1, rfl, rfl, .inl (.inl h1), atI_nat rfl, sz 1, fun z1 nz1 => ?_⟩
      have s14 := same_upd nz1 (o := .lst [.str ("zzzy" : Str)])
      have kz1 : (upd H13 z1 (.lst [.str ("zzzy" : Str)])) z1 = some (.lst [.str ("zzzy" : Str)]) := upd_same
      have x14 := x13.trans (same_ext s14)
      have B14 := ((B11.same s12).same s13).same s14
      have kz2 := s14 _ _ h2
      have kz3 := s14 _ _ h1
      revert x14 B14 kz1 kz2 kz3
      generalize upd H13 z1 (.lst [.str ("zzzy" : Str)]) = H14
      intro kz1 x14 B14 kz2 kz3
      refine .inr (.inr ⟨e1, z1, d.evs.map V.str, [.str ("zzzy" : Str)], rfl, rfl, kz2, kz1, Nat.le_trans (by rw [List.length_map]; show d.evs.length + 1 ≤ 100; omega) (sz 100), fun z2 nz2 => ?_⟩)
      have s15 := same_upd nz2 (o := .lst (d.evs.map V.str ++ [.str ("zzzy" : Str)]))
      have kz4 : (upd H14 z2 (.lst (d.evs.map V.str ++ [.str ("zzzy" : Str)]))) z2 = some (.lst ((d.evs ++ [("zzzy" : Str)]).map V.str)) := by rw [upd_same, List.map_append]; rfl
      have x15 := x14.trans (same_ext s15)
      have B15 := B14.same s15
      have kz2 := s15 _ _ kz2
      have kz3 := s15 _ _ kz3
      revert x15 B15 kz4 kz2 kz3
      generalize upd H14 z2 (.lst (d.evs.map V.str ++ [.str ("zzzy" : Str)])) = H15
      intro kz4 x15 B15 kz2 kz3
      refine ⟨_, rfl, _, rfl, z2, _, rfl, .inl (.inl kz4), fun z3 nz3 => ?_⟩
      have s16 := same_upd nz3 (o := .lst (cutV ((d.evs ++ [("zzzy" : Str)]).map V.str) (some (-8)) none))
      have kz5 : (upd H15 z3 (.lst (cutV ((d.evs ++ [("zzzy" : Str)]).map V.str) (some (-8)) none))) z3 = some (.lst ((d.evs ++ [("zzzy" : Str)]).map V.str)) := by
        rw [upd_same, cut_m8 (by rw [List.length_map, List.length_append]; show d.evs.length + 1 ≤ 8; omega)]
      have x16 := x15.trans (same_ext s16)
      have nb3 : z3 ≠ b := (B15.ne nz3).symm
      have B16 := B15.same s16
      have kz2 := s16 _ _ kz2
      have kz3 := s16 _ _ kz3
      revert x16 B16 kz5 kz2 kz3
      generalize upd H15 z3 (.lst (cutV ((d.evs ++ [("zzzy" : Str)]).map V.str) (some (-8)) none)) = H16
      intro kz5 x16 B16 kz2 kz3
      refine ⟨_, rfl, y, _, ((1 : Nat) : Int), .ref t1, rfl, rfl, .inl (.inl kz3), atI_nat rfl, _, rfl, y, _, ((2 : Nat) : Int), .ref c1, rfl, rfl, .inl (.inl kz3), atI_nat rfl, sz 3, fun z4 nz4 => ?_⟩
      have s17 := same_upd nz4 (o := .lst [.ref z3, .ref t1, .ref c1])
      have kz6 : (upd H16 z4 (.lst [.ref z3, .ref t1, .ref c1])) z4 = some (.lst [.ref z3, .ref t1, .ref c1]) := upd_same
      have nb4 : z4 ≠ b := (B16.ne nz4).symm
      have x17 := x16.trans (same_ext s17)
      have kz5 := s17 _ _ kz5
      have kz2 := s17 _ _ kz2
      have kz3 := s17 _ _ kz3
      have hS17 := seq_extP hS1 nb (E8.trans x17)
      revert x17 kz6 kz5 kz2 kz3 hS17
      generalize upd H16 z4 (.lst [.ref z3, .ref t1, .ref c1]) = H17
      intro kz6 x17 kz5 kz2 kz3 hS17
      refine gname ?_
      refine ⟨_, rfl, y, _, ((0 : Nat) : Int), .ref e1, rfl, rfl, .inl (.inl kz3), atI_nat rfl, .inr ⟨e1, _, rfl, .inl (.inl (.inl kz2)), rfl, flat_strs _, _, rfl, ?_⟩⟩
      by_cases hz : ("zzzy" : Str) ∈ d.evs
      · rw [if_pos rfl, inV_strs, decide_eq_true hz]
        exact ⟨hS17, _, _, _, _, _, _, _, _, _, rfl⟩
      rw [if_pos rfl, inV_strs, decide_eq_false hz]
      refine ⟨_, rfl, y, _, ((0 : Nat) : Int), .ref e1, rfl, rfl, .inl (.inl kz3), atI_nat rfl, .inl ⟨e1, _, rfl, .inl (.inl (.inl kz2)), _, _, rfl, rfl, _, rfl, ?_⟩⟩
      rw [decide_eq_true (by rw [List.length_map]; omega)]
      refine iteT ?_
      refine ⟨_, rfl, b, y, d, rfl, hM1.ext x17, ok, fun p1 H18 s18 np1 hp1 => ?_⟩
      have hMw : ModAt b H17 z4 ⟨d.evs ++ [("zzzy" : Str)], d.ties, d.caps⟩ := by
        obtain ⟨f1, f2, f3, f4, f5, f6, f7, f8, f9, g1, g2, g3, g4, g5⟩ := hM1.ext x17
        rw [kz3] at f5
        cases f5
        exact ⟨z3, t1, c1, f4, kz6, kz5, f7, f8, f9, nb4, nb3, g3, g4, g5⟩
      have okw : PlanOk ⟨d.evs ++ [("zzzy" : Str)], d.ties, d.caps⟩ := ok_wide ok hlo hz
      refine ⟨_, rfl, b, z4, _, rfl, hMw.same s18, okw, fun p2 H19 s19 np2 hp2 => ?_⟩
      refine ⟨p1, p2, d, _, rfl, hp1.same s19, hp2, ok, okw, fun v H20 s20 hv nv => ⟨rfl, _, rfl, ?_⟩⟩
      have hno : rnmD d ⟨d.evs ++ [("zzzy" : Str)], d.ties, d.caps⟩ = none := by
        cases hr : rnmD d ⟨d.evs ++ [("zzzy" : Str)], d.ties, d.caps⟩ with
        | none => rfl
        | some L =>
          obtain ⟨f1, f2, _⟩ := rnm_right ok okw hr
          have h1 := congrArg List.length f1
          have h2 := f2.length_eq
          rw [List.length_map] at h1 h2
          rw [List.length_append] at h2
          have h2 : L.length = d.evs.length + 1 := h2
          omega
      rw [hno] at hv
      obtain rfl : v = .non := by
        rcases hv with ⟨_, h⟩ | ⟨_, _, h, _⟩
        · exact h
        · cases h
      refine iteF ?_
      exact ⟨seq_extP hS1 nb (E8.trans (x17.trans (same_ext (Same.trans s18 (Same.trans s19 s20))))), _, _, _, _, _, _, _, _, _, rfl⟩

end
end Pk

set_option Elab.async false
set_option linter.all false
set_option maxRecDepth 100000
set_option maxHeartbeats 4000000
/-! the goal that k_head leaves, where one def makes lambdas: its table of code objects is told from the start -/
namespace Pu
open PySem PySem.Spec PyProof.Rows L2
section
variable {P : Program} {w : World} {K : PySem.W.Frag} {mg mb : Str → Option Value}
theorem start_tab {s₁ : Shared} {a c T : Addr} {vs : List Value} {ns : List Int} (KX : K.In s₁.heap) (hm : s₁.heap.Ns mainGlobals mg) (hb : s₁.heap.Ns builtinsNs mb) (hbb : ∀ x : Str, x ≠ "__name__" → mb x = bootBuiltins x) (hl : s₁.heap.NoLimit) (hg : s₁.gens = #[])
    (ha : s₁.heap.get? a = some { cls := .type "list", data := .seq vs.toArray }) (hi : IntsAre vs ns) (hz : ns.length ≤ sizeLine)
    (hT : s₁.heap.get? T = some { cls := .none, data := .fields #[] }) (nT : K.lookup T = none) (hc : PySem.W.CodeHd s₁.heap c T)
    (hbm : ∃ (bm : Addr) (ob : Obj), mg "__builtins__" = some (.ref bm) ∧ bm ≠ builtinsNs ∧ s₁.heap.get? bm = some ob ∧ ob.cls = .type "module" ∧ ob.dict = some builtinsNs ∧ ob.data = .plain) :
    ∃ H : Hp, SqL K H a (ns.map V.int) ∧ H T = some (.tbl #[]) ∧ K.In (hidT s₁.heap H) ∧ (hidT s₁.heap H).Ns mainGlobals mg ∧ LamX.TabB (hidT s₁.heap H) mg c T ∧ Env0 P w K mg (hidT s₁.heap H) callerA [] s₁ H ∧
      ∀ (H' : Hp) (s' : Shared), Un (frs []) [] H H' s₁.heap s'.heap → HOk P w H' s'.heap → OldK s₁.heap s'.heap := by
  have rv := vals_ints hi
  have aT : a ≠ T := fun z => by
    rw [z, hT] at ha
    have := congrArg Obj.data (Option.some.inj ha)
    cases this
  have key : ∃ H : Hp, SqL K H a (ns.map V.int) ∧ H T = some (.tbl #[]) ∧ (∀ b u, H b = some u → (b = a ∧ K.lookup a = none ∧ u = .frz { cls := .type "list", data := .seq vs.toArray } (.lst (ns.map V.int))) ∨ (b = T ∧ u = .tbl #[])) := by
    cases hk : K.lookup a with
    | none =>
      refine ⟨upd (fun b => if b = a then some (.frz { cls := .type "list", data := .seq vs.toArray } (.lst (ns.map V.int))) else none) T (.tbl #[]), .inl (.inr ⟨_, by rw [upd_ne aT]; exact if_pos rfl⟩), upd_same, fun b u z => ?_⟩
      by_cases hbT : b = T
      · rw [hbT, upd_same] at z
        exact .inr ⟨hbT, (Option.some.inj z).symm⟩
      · rw [upd_ne hbT] at z
        have z : (if b = a then some (HO.frz { cls := .type "list", data := .seq vs.toArray } (.lst (ns.map V.int))) else none) = some u := z
        by_cases hb : b = a
        · rw [if_pos hb] at z
          exact .inl ⟨hb, rfl, (Option.some.inj z).symm⟩
        · rw [if_neg hb] at z
          cases z
    | some o =>
      have e := ha.symm.trans (KX a o hk)
      cases e
      refine ⟨upd (fun _ => none) T (.tbl #[]), .inr ⟨_, vs.toArray, _, hk, rfl, rfl, rfl, by rw [List.size_toArray, hi.length]; exact hz, rv⟩, upd_same, fun b u z => ?_⟩
      by_cases hbT : b = T
      · rw [hbT, upd_same] at z
        exact .inr ⟨hbT, (Option.some.inj z).symm⟩
      · rw [upd_ne hbT] at z
        cases z
  obtain ⟨H, hS, kT, only⟩ := key
  have get : ∀ {b : Addr} {o : Obj}, s₁.heap.get? b = some o → (∀ u, H b = some u → False) → (hidT s₁.heap H).get? b = some o := fun {b o} e n => hidT_get e (by
    cases q : H b with
    | none => rfl
    | some u => exact (n u q).elim)
  -- what holds neither a script nor an empty table is not tracked
  have free : ∀ {b : Addr} {o : Obj}, s₁.heap.get? b = some o → (∀ xs n, o.data ≠ .seq xs n) → o.data ≠ .fields #[] → ∀ u, H b = some u → False := fun {b o} e h1 h2 u z => by
    rcases only b u z with ⟨rfl, _, _⟩ | ⟨rfl, _⟩
    · rw [ha] at e
      cases e
      exact h1 _ _ rfl
    · rw [hT] at e
      cases e
      exact h2 rfl
  have noDict : ∀ {b : Addr} {o : Obj} {es : Array DictEntry} {ep : Nat}, s₁.heap.get? b = some o → o.data = .dict es ep → ∀ u, H b = some u → False := fun e d => free e (fun _ _ z => by rw [d] at z; cases z) fun z => by rw [d] at z; cases z
  have ns : ∀ {b : Addr} {m : Str → Option Value}, s₁.heap.Ns b m → (hidT s₁.heap H).Ns b m := fun ⟨o, es, ep, e, d, r⟩ => ⟨o, es, ep, get e (noDict e d), d, r⟩
  have inK : K.In (hidT s₁.heap H) := fun b o e => get (KX b o e) fun u z => by
    rcases only b u z with ⟨rfl, n, _⟩ | ⟨rfl, _⟩
    · rw [n] at e
      cases e
    · rw [nT] at e
      cases e
  have ok : HOk P w H s₁.heap := fun b u z => by
    rcases only b u z with ⟨rfl, _, rfl⟩ | ⟨rfl, rfl⟩
    · exact ⟨ha, by rw [List.length_map]; exact hz, vs, _, rv, ha⟩
    · exact hT
  have noMg : mainGlobals ≠ T := fun z => by
    obtain ⟨o, es, ep, e, d, _⟩ := hm
    rw [z, hT] at e
    cases e
    cases d
  have tb : LamX.TabB (hidT s₁.heap H) mg c T := by
    refine ⟨?_, ?_, noMg⟩
    · obtain ⟨o, us, fl, tf, fg, tg, iF, tx, tt, e1, r1, r2, r3, rest⟩ := hc
      refine ⟨o, us, fl, tf, fg, tg, iF, tx, tt, get e1 (free e1 (fun _ _ z => by rw [r2] at z; cases z) fun z => ?_), r1, r2, r3, rest⟩
      rw [r2] at z
      cases z
      simp at r3
    · obtain ⟨bm, ob, b1, b2, b3, b4, b5, b6⟩ := hbm
      refine ⟨bm, ob, b1, b2, fun q => ?_, fun q => ?_, get b3 (free b3 (fun _ _ z => by rw [b6] at z; cases z) fun z => by rw [b6] at z; cases z), b4, b5, b6⟩
      · obtain ⟨o, es, ep, e, d, _⟩ := hm
        rw [q, e] at b3
        cases b3
        rw [d] at b6
        cases b6
      · rw [q, hT] at b3
        cases b3
        cases b6
  refine ⟨H, hS, kT, inK, ns hm, tb, ⟨rfl, ⟨inK, ns hm, ⟨mb, ns hb, hbb⟩, ?_⟩, fun b o e => of_hidT e, Nat.le_of_eq (hidT_size _ _), trivial, ?_, ok, .of_eq hg⟩, ?_⟩
  · obtain ⟨mc, h1, h2⟩ := hl
    exact ⟨mc, ns h1, h2⟩
  · intro b z
    exact absurd (show b ∈ ([] : List Addr) from z) List.not_mem_nil
  · intro H' s' un ok'
    have stay : ∀ b o, b ≠ T → s₁.heap.get? b = some o → s'.heap.get? b = some o := fun b o nb e => by
      cases q : H b with
      | none => exact un.keep b o e q (fun z => absurd (show b ∈ ([] : List Addr) from z) List.not_mem_nil) List.not_mem_nil
      | some u =>
        rcases only b u q with ⟨rfl, _, rfl⟩ | ⟨rfl, _⟩
        · have z := (ok' b _ (un.frzs b _ _ q)).1
          have e0 := (ok b _ q).1
          rw [e] at e0
          cases e0
          exact z
        · exact (nb rfl).elim
    obtain ⟨more, hmore⟩ := un.tbls T #[] kT
    have grown := ok' T _ hmore
    refine ⟨fun b o e => ?_, fun b o e => ?_⟩
    · by_cases z : b = T
      · subst z
        rw [hT] at e
        cases e
        exact .inr (.inl ⟨(hc.tab hT).isCodeTable, rfl, #[], _, rfl, grown⟩)
      · exact .inl (stay b o z e)
    · by_cases z : b = T
      · subst z
        exact ⟨_, grown⟩
      · exact ⟨o, stay b o z e⟩
end
end Pu
namespace Pu
open PySem PySem.Spec PyProof.Rows L2
/-- the goal that k_head leaves, from the promise of a law that says repr and makes a lambda -/
theorem walk_GT {l : PySem.W.OpenLaw} {n k : Nat} {q : Program} {loose : List Str} {XP : (Str → Option Value) → Heap → Prop} {YP : World → Heap → Prop} {d : DefRec} {K : Params → PySem.W.Frag} {sp : World → Addr → Sp} {x : Str}
    (hn : l.most = some n) (hn2 : n ≤ sizeLine) (hdf : d.params.defaults = []) (hr : Room k callerA) (hY : ∀ (w : World) (h : Heap), YP w h → (K w.params).In h)
    (F : ∀ (w : World) (mg : Str → Option Value) (fa : Addr) (h : Heap), YP w h → (K w.params).In h → h.Ns mainGlobals mg → mg d.name = some (.ref fa) →
      ∃ (fd : FuncData) (c T : Addr), h.get? T = some { cls := .none, data := .fields #[] } ∧ (K w.params).lookup T = none ∧ PySem.W.CodeHd h c T ∧ (∀ (s : Shared) (u : Value), BindsTo s fd ⟨[u], []⟩ [(x, u)]) ∧
        (∀ (H : Hp) (a : Addr) (ns : List Int), ns.length ≤ n → SqL (K w.params) H a (ns.map V.int) → H T = some (.tbl #[]) → sp w T [.ref a] H (fun v _ => v = .bl true) fun _ _ _ => False) ∧
        ∀ base : Heap, (K w.params).In base → base.Ns mainGlobals mg → LamX.TabB base mg c T → FnG l.prog w (K w.params) mg base CX0 k fa fd [x] (sp w T)) :
    PySem.W.WalkO q loose XP YP l.row.toRowW d [] (fun f vs => PySem.call f vs) := by
  refine Att.attach_call hn hdf ?_
  intro w s₀ s₁ mg mb fa o pm cd doc a vs ns G Y ho hd hcd hmg hobj hints hlen hg
  have KX := hY w _ Y
  obtain ⟨fd, c, T, hT, nT, hc, hb, hsp, hF⟩ := F w mg fa _ Y KX G.T.g hmg
  obtain ⟨H, hS, kT, hK, hN, tb, e0, old⟩ := start_tab (P := l.prog) (w := w) KX G.T.g G.T.b G.T.builtins G.T.nolimit hg hobj hints (Nat.le_trans hlen hn2) hT nT hc G.T.bmain
  refine codeAny_mono ((hF _ hK hN tb).go callerA [] s₁ H ⟨[.ref a], []⟩ [.ref a] [.ref a] _ _ rfl hr e0 (hb s₁ (.ref a)) (.cons rfl .nil) (hsp H a ns hlen hS kT)) ?_
  rintro (e | (_ | _ | _ | u)) s' z
  · exact (show False from z).elim
  · exact (show False from z).elim
  · exact (show False from z).elim
  · exact (show False from z).elim
  · obtain ⟨v, H', os, bare, un, ok', r, rfl⟩ := z
    cases (show u = Value.bool true from r)
    exact ⟨rfl, old H' s' un ok', os, bare⟩
section
variable {X : Cx}
/-- a lambda without defaults as a value -/
def tLamV (T : List (Addr × Str)) : TE := fun σ H Q => LamX.Tabs T H ∧ ∀ f H1, LamX.ExtN H H1 → LamX.Tabs T H1 → H1 f = none → Q (.ref f) H1
theorem pe_lamV {T : List (Addr × Str)} {c P : Addr} {params : Arguments} {body : Expr} {scope : Scope} {pos : Pos} (TB : LamX.TabB X.base X.mg c P) (hcode : X.env.code = .ref c)
    (hm : (P, X.env.qual ++ "<lambda>") ∈ T) (hu : ∀ p ∈ T, p.1 = P → p.2 = X.env.qual ++ "<lambda>") (hdef : defaultsOf params X.env = ([], []) := by rfl) (hfree : ∀ y ∈ scope.names, y.2 = .free → ∃ c, X.env.cells.lookup y.1 = some c) :
    PE X (.Lambda params body scope pos) (tLamV T) := by
  refine ⟨fun pins s σ H Q I h => ?_⟩
  obtain ⟨hT, h⟩ := h
  exact LamX.lam_make2 I TB hcode hm hu hT hdef hfree fun f c' pm ctv H1 s' I1 x t _ n _ _ => ⟨.ref f, H1, I1, rfl, h f H1 x t n⟩
end
end Pu
namespace Pu
open PySem PySem.Spec PyProof.Rows L2
section
variable {P : Program} {w : World} {K : PySem.W.Frag} {mg : Str → Option Value} {base : Heap}
/-- a def whose code object is known -/
theorem fn_code {x qual : Str} {st : Stmt} {f : Addr} {fd : FuncData} {N ps : List Str} {k : Nat} {sp : Sp} {cv : Value} (F : Fun K x qual st f fd) (hcv : fd.code = cv) (S : FnScope N ps (defScope st)) (len : ∀ vs H Q E, sp vs H Q E → vs.length = ps.length)
    (hbody : ∀ (A : Around) (outer : List Env) (s : Shared) (H : Hp) (vs : List V) (Q : VK) (E : XK), Room k (A.deeper (envOfC qual (defScope st) s.heap.objs.size f cv)) → sp vs H Q E →
      ∃ t, PSs (cxOf CX0 P w K mg base N qual (defScope st) f cv A outer s H E).nox (defBody st) t ∧ t { nx := fun _ H' => Q .non H', rt := Q } (start N vs) H) : FnOk P w K mg base CX0 (k + 1) f fd ps sp := by
  obtain ⟨oc, od, kV, doc, pm, an, cdv, ct, osl, rfl, lk, hcd⟩ := F.ex
  have e : cdv = cv := hcv
  subst e
  refine fn_of lk hcd S len fun A outer s H vs Q E hr hsp => ?_
  obtain ⟨t, h, q⟩ := hbody A outer s H vs Q E hr hsp
  exact ⟨t, h.nox, q⟩
end
end Pu

set_option Elab.async false
set_option linter.all false
set_option maxRecDepth 100000
set_option maxHeartbeats 4000000
/-! the end of a law where one def of the module makes a lambda: where its table stands is read off the top -/
namespace Pu
open PySem PySem.Spec PyProof.Rows L2
/-- the code object and the empty table of the def that is called nm -/
def NamedTab (K : PySem.W.Frag) (mg : Str → Option Value) (nm : Str) (h : Heap) : Prop := ∀ (f2 c T : Addr) (o : Obj) (fd : FuncData) (e : Value) (dd : Option Addr) (vs : Array Value) (sl : Array (Option Value)), mg nm = some (.ref f2) → K.lookup f2 = some o → o.data = .func fd → fd.code = .ref c → K.lookup c = some ⟨e, dd, .fields vs, sl⟩ → vs[11]? = some (.ref T) →
  h.get? T = some { cls := .none, data := .fields #[] } ∧ PySem.W.CodeHd h c T
theorem walk_GO (sp : PySem.W.Frag → Addr → Sp) {l : PySem.W.OpenLaw} {n k : Nat} {q : Program} {loose : List Str} {XP : (Str → Option Value) → Heap → Prop} {YP : World → Heap → Prop} {d : DefRec} {K : Params → PySem.W.Frag} {x : Str} (nm : Str)
    (hn : l.most = some n) (hn2 : n ≤ sizeLine) (hdf : d.params.defaults = []) (hr : Room k callerA) (hrec : ((recsOf q).any fun e => e.name == nm) = true) (hY : ∀ (w : World) (h : Heap), YP w h → (K w.params).In h)
    (F : ∀ (w : World) (mg : Str → Option Value) (fa : Addr) (h : Heap), YP w h → (K w.params).In h → h.Ns mainGlobals mg → mg d.name = some (.ref fa) → NamedTab (K w.params) mg nm h →
      ∃ (fd : FuncData) (c T : Addr), h.get? T = some { cls := .none, data := .fields #[] } ∧ (K w.params).lookup T = none ∧ PySem.W.CodeHd h c T ∧ (∀ (s : Shared) (u : Value), BindsTo s fd ⟨[u], []⟩ [(x, u)]) ∧
        (∀ (H : Hp) (a : Addr) (ns : List Int), ns.length ≤ n → SqL (K w.params) H a (ns.map V.int) → H T = some (.tbl #[]) → sp (K w.params) T [.ref a] H (fun v _ => v = .bl true) fun _ _ _ => False) ∧
        ∀ base : Heap, (K w.params).In base → base.Ns mainGlobals mg → LamX.TabB base mg c T → FnG l.prog w (K w.params) mg base CX0 k fa fd [x] (sp (K w.params) T)) :
    PySem.W.WalkO q loose XP YP l.row.toRowW d [] (fun f vs => PySem.call f vs) := by
  refine Att.attach_call hn hdf ?_
  intro w s₀ s₁ mg mb fa o pm cd doc a vs ns G Y ho hd hcd hmg hobj hints hlen hg
  have KX := hY w _ Y
  have tab : NamedTab (K w.params) mg nm s₁.heap := fun f2 c T o1 fd1 e dd vs1 sl k0 k1 k2 k3 k4 k5 => by
    obtain ⟨dL, hm, hn1⟩ := List.any_eq_true.mp hrec
    have hn2 : dL.name = nm := beq_iff_eq.mp hn1
    obtain ⟨a', o', fd', c', P', h1, h2, h3, h4, h5, h6⟩ := G.T.tab dL hm
    rw [hn2, k0] at h1
    cases h1
    have g1 := KX _ _ k1
    rw [g1] at h2
    cases h2
    rw [k2] at h3
    cases h3
    rw [k3] at h4
    cases h4
    have C := PySem.W.CodeHd.of h5 h6
    obtain ⟨⟨oc, vc, e1, _, e3, e4⟩, hP⟩ := h6
    have g2 := KX _ _ k4
    rw [g2] at e1
    cases e1
    cases e3
    rw [k5] at e4
    cases e4
    exact ⟨hP, C⟩
  obtain ⟨fd, c, T, hT, nT, hc, hb, hsp, hF⟩ := F w mg fa _ Y KX G.T.g hmg tab
  obtain ⟨H, hS, kT, hK, hN, tb, e0, old⟩ := start_tab (P := l.prog) (w := w) KX G.T.g G.T.b G.T.builtins G.T.nolimit hg hobj hints (Nat.le_trans hlen hn2) hT nT hc G.T.bmain
  refine codeAny_mono ((hF _ hK hN tb).go callerA [] s₁ H ⟨[.ref a], []⟩ [.ref a] [.ref a] _ _ rfl hr e0 (hb s₁ (.ref a)) (.cons rfl .nil) (hsp H a ns hlen hS kT)) ?_
  rintro (e | (_ | _ | _ | u)) s' z
  · exact (show False from z).elim
  · exact (show False from z).elim
  · exact (show False from z).elim
  · exact (show False from z).elim
  · obtain ⟨v, H', os, bare, un, ok', r, rfl⟩ := z
    cases (show u = Value.bool true from r)
    exact ⟨rfl, old H' s' un ok', os, bare⟩
end Pu

set_option Elab.async false
set_option linter.all false
set_option maxRecDepth 100000
set_option maxHeartbeats 4000000
/-! the end of a law over ONE run of the top in the kernel: what the heap says is read by a Hook, by names -/
namespace Hx
open PySem PySem.Spec PyProof.Rows L2 He
/-- what an object names, as far as the facts go: not what a code object holds -/
def refsX (o : Obj) : List Addr := match o.data with
  | .seq its _ => its.toList.flatMap refV
  | .dict es _ => es.toList.flatMap fun e => refV e.val
  | .func fd => refV fd.code ++ (refV fd.defaults ++ refV fd.kwdefaults)
  | .cls cd => cd.ns :: cd.mro.flatMap refV
  | _ => []
def lev (g : Addr → Option Obj) : Nat → List Addr → List Addr
  | 0, as => as
  | n + 1, as => as ++ lev g n (as.flatMap fun a => match g a with
    | some o => refsX o
    | none => [])
abbrev FaX : Type := PySem.W.Frag → Bool
def obsX (fa : List FaX) (fn : List DefD) (K : PySem.W.Frag) : AlD := ((fa.all fun f => f K) && fn.all fun d => d.ok K, fn.map fun d => fnW K d.at_)
def SaysX (fa : List FaX) (fn : List DefD) (K : PySem.W.Frag) : Prop := obsX fa fn K = valD fn
def obsXG (n : Nat) (fa : List FaX) (fn : List DefD) (g : Addr → Option Obj) : AlD := obsX fa fn (frG g (lev g n [mainGlobals]))
def hookX (n : Nat) (fa : List FaX) (fn : List DefD) : PySem.W.Hook where
  α := AlD
  obs := fun s => obsXG n fa fn s.heap.get?
  val := fun _ => valD fn
  says := fun _ h => ∃ K : PySem.W.Frag, K.In h ∧ SaysX fa fn K
  of := fun _ _ e => ⟨_, frG_in, e⟩
  keeps := fun _ _ _ ⟨K, hK, c⟩ k => ⟨K, PySem.W.Frag.In.keeps hK k, c⟩
theorem obsXG_eq {n : Nat} {fa : List FaX} {fn : List DefD} {g : Addr → Option Obj} {s : Shared} (h : ∀ a, g a = s.heap.get? a) : obsXG n fa fn g = (hookX n fa fn).obs s := by
  have e : g = s.heap.get? := funext h
  rw [e] <;> rfl
section
variable {fa : List FaX} {fn : List DefD} {K : PySem.W.Frag}
theorem SaysX.fact (c : SaysX fa fn K) (i : Nat) {f : FaX} (h : fa[i]? = some f := by rfl) : f K = true := by
  have c1 := (ba (show ((fa.all fun f => f K) && fn.all fun d => d.ok K) = true from congrArg (fun z : AlD => z.1) c)).1
  exact List.all_eq_true.mp c1 f (List.mem_of_getElem? h)
theorem SaysX.def_ (c : SaysX fa fn K) (i : Nat) {d : DefD} (h : fn[i]? = some d := by rfl) : ∃ fd, FunD K d.name d.qual d.params d.body d.scope (d.dvs K) (d.kws K) (fAd K d.at_) fd := by
  have c2 := (ba (show ((fa.all fun f => f K) && fn.all fun d => d.ok K) = true from congrArg (fun z : AlD => z.1) c)).2
  have e : fn.map (fun d => fnW K d.at_) = fn.map DefD.val := congrArg (fun z : AlD => z.2) c
  have e2 : (fn.map fun d => fnW K d.at_)[i]? = (fn.map DefD.val)[i]? := by rw [e]
  rw [List.getElem?_map, List.getElem?_map, h] at e2
  exact DefD.funD (Option.some.inj e2) (List.all_eq_true.mp c2 d (List.mem_of_getElem? h))
end
/-- a def without defaults -/
theorem fun_D {K : PySem.W.Frag} {x q : Str} {st : Stmt} {f : Addr} {fd : FuncData} (F : FunD K x q (defArgs st) (defBody st) (defScope st) [] [] f fd) : Fun K x q st f fd := by
  obtain ⟨oc, od, dV, kV, doc, pm, an, cdv, ct, osl, rfl, lk, hcd, hD, _⟩ := F.ex
  rcases hD with ⟨_, rfl⟩ | ⟨z, _⟩
  · exact ⟨⟨oc, od, kV, doc, pm, an, cdv, ct, osl, rfl, lk, hcd⟩, F.kp⟩
  · exact absurd rfl z
theorem SaysX.fun_ {fa : List FaX} {fn : List DefD} {K : PySem.W.Frag} (c : SaysX fa fn K) (i : Nat) {p : Str × Option Str} {x q : Str} {st : Stmt} (h : fn[i]? = some ⟨p, x, q, defArgs st, defBody st, defScope st, [], []⟩ := by rfl) : ∃ fd, Fun K x q st (fAd K p) fd := by
  obtain ⟨fd, F⟩ := c.def_ i h
  exact ⟨fd, fun_D F⟩
/-! ### facts -/
def dObj (K : PySem.W.Frag) (v : Value) (x : Str) (r : Option Value) : Bool := eqO (PySem.W.findIn K v x) (some r)
theorem dObj_ok {K : PySem.W.Frag} {v : Value} {x : Str} {r : Option Value} (h : dObj K v x r = true) : PySem.W.findIn K v x = some r := eqO_ok h
def fGlo (x : Str) : FaX := fun K => eqO (PySem.W.nsIn K mainGlobals x) (some (some (.ref (ga K x))))
def fFree (x : Str) : FaX := fun K => eqO (PySem.W.nsIn K mainGlobals x) (some none)
def fInt (x : Str) (i : Int) : FaX := fun K => (Fa.int x i).ok K
def fStr (x z : Str) : FaX := fun K => (Fa.str x z).ok K
/-- the class x does not have the attribute f -/
def fNo (x f : Str) : FaX := fun K => dObj K (.ref (ga K x)) f none
/-- .. has the builtin b there -/
def fBi (x f : Str) (b : String) : FaX := fun K => dObj K (.ref (ga K x)) f (some (.builtin b))
def fMe (x m : Str) : FaX := fun K => dObj K (.ref (ga K x)) m (some (.ref (ma K (ga K x) m)))
def fFn (x m : Str) : FaX := fun K => PySem.W.isFn K (.ref (ma K (ga K x) m))
def optB (a b : Option Bool) : Bool := decide (a = b)
/-- an own error: its class object -/
def clsB (K : PySem.W.Frag) (C : Addr) (n B : String) : Bool := match K.lookup C with
  | some ⟨.type t, _, .cls cd, sl⟩ => (match cd.mro, sl.toList with
    | .ref c :: bm, [_, _, _, _, some (.builtin m), _] => decide (t = "type") && (decide (c = C) && (decide (m = n) && ((!cd.hasDel && cd.hasDict) && (bm.contains (.type B) && (!bm.contains (.type "AttributeError") && !bm.contains (.type "NameError"))))))
    | _, _ => false)
  | _ => false
theorem clsB_ok {K : PySem.W.Frag} {C : Addr} {n B : String} (h : clsB K C n B = true) : ∃ nm q N bs bm sn sub ab col dd k0 k1 k2 k3 k5, K.lookup C = some (excClassObj nm q C N bs bm true sn sub ab col dd k0 k1 k2 k3 k5 n) ∧ Er.Above bm B := by
  unfold clsB at h
  split at h
  · rename_i t dd cd sl ho
    split at h
    · rename_i c bm k0 k1 k2 k3 m k5 hm hs
      obtain ⟨h1, h⟩ := ba h
      obtain ⟨h2, h⟩ := ba h
      obtain ⟨h3, h⟩ := ba h
      obtain ⟨h4, h⟩ := ba h
      obtain ⟨h5, h⟩ := ba h
      obtain ⟨h6, h7⟩ := ba h
      obtain ⟨h8, h9⟩ := ba h4
      have h1 := of_decide_eq_true h1
      have h2 := of_decide_eq_true h2
      have h3 := of_decide_eq_true h3
      subst h1 h2 h3
      obtain ⟨nm, bs, mro, ns, qn, hd, sn, sub, ab, col, del⟩ := cd
      obtain ⟨l⟩ := sl
      dsimp only at hm h8 h9 hs
      subst hm h9 hs
      have h8 : del = false := by cases del <;> first | rfl | cases h8
      subst h8
      refine ⟨nm, qn, ns, bs, bm, sn, sub, ab, col, dd, k0, k1, k2, k3, k5, ho, h5, ?_, ?_⟩
      · cases z : bm.contains (.type "AttributeError") with
        | false => rfl
        | true => rw [z] at h6; cases h6
      · cases z : bm.contains (.type "NameError") with
        | false => rfl
        | true => rw [z] at h7; cases h7
    · cases h
  · cases h
/-- the function at f has no keyword-only defaults -/
def kwNone (K : PySem.W.Frag) (f : Addr) : Bool := match K.lookup f with
  | some ⟨_, _, .func fd, _⟩ => (match fd.kwdefaults with
    | .none => true
    | _ => false)
  | _ => false
theorem kwNone_ok {K : PySem.W.Frag} {f : Addr} {oc : Value} {od : Option Addr} {fd : FuncData} {sl : Array (Option Value)} (l : K.lookup f = some ⟨oc, od, .func fd, sl⟩) (h : kwNone K f = true) : fd.kwdefaults = .none := by
  unfold kwNone at h
  rw [l] at h
  have h : (match fd.kwdefaults with
    | .none => true
    | _ => false) = true := h
  cases e : fd.kwdefaults with
  | none => rfl
  | _ => rw [e] at h; cases h
/-- all that ErrTxt asks of the class x, but the text of its __init__ -/
def fErr (x f : Str) (n B : String) (T : List Value) : FaX := fun K => eqO (PySem.W.nsIn K mainGlobals x) (some (some (.ref (ga K x)))) && (clsB K (ga K x) n B && (PySem.W.excOver K (ga K x) T && (dObj K (.ref (ga K x)) "__setattr__" (some (.builtin "object.__setattr__")) && (dObj K (.ref (ga K x)) "__getattribute__" (some (.builtin "BaseException.__getattribute__")) && (dObj K (.ref (ga K x)) "__getattr__" none &&
  (dObj K (.ref (ga K x)) f none && (dObj K (.ref (ga K x)) "__init__" (some (.ref (ma K (ga K x) "__init__"))) && (decide (PySem.W.typeIn K (.ref (ma K (ga K x) "__init__")) = some (.type "function")) && (PySem.W.keepIn K (.ref (ga K x)) && (optB (PySem.W.subIn K (.ref (ga K x)) (.type "BaseException")) (some true) &&
  (decide (PySem.W.typeIn K (.ref (ga K x)) = some (.type "type")) && (PySem.W.hasDictIn K (ga K x) && (PySem.W.isClsIn K (ga K x) && kwNone K (ma K (ga K x) "__init__"))))))))))))))
theorem err_mk {K : PySem.W.Frag} {h : Heap} {mg : Str → Option Value} {x f q : Str} {n B : String} {T : List Value} {p1 p2 q1 q2 q3 q4 : Pos} {fd : FuncData} (X : K.In h) (G : h.Ns mainGlobals mg) (hf : f ∈ PySem.Er.flds)
    (hB : (n = "ValueError.__new__" ∧ B = "ValueError") ∨ (n = "LookupError.__new__" ∧ B = "LookupError")) (hT : T = PySem.Er.vT ∨ T = PySem.Er.lT ∨ T = PySem.Er.kT) (c : fErr x f n B T K = true)
    (F : FunD K "__init__" q (PySem.Er.iA f p1 p2) (PySem.Er.iB f q1 q2 q3 q4) (PySem.Er.iS f) [] [] (ma K (ga K x) "__init__") fd) : PySem.Er.ErrTxt K mg x f (ga K x) (ma K (ga K x) "__init__") := by
  obtain ⟨c1, c⟩ := ba c
  obtain ⟨c2, c⟩ := ba c
  obtain ⟨c3, c⟩ := ba c
  obtain ⟨c4, c⟩ := ba c
  obtain ⟨c5, c⟩ := ba c
  obtain ⟨c6, c⟩ := ba c
  obtain ⟨c7, c⟩ := ba c
  obtain ⟨c8, c⟩ := ba c
  obtain ⟨c9, c⟩ := ba c
  obtain ⟨c10, c⟩ := ba c
  obtain ⟨c11, c⟩ := ba c
  obtain ⟨c12, c⟩ := ba c
  obtain ⟨c13, c⟩ := ba c
  obtain ⟨c14, c15⟩ := ba c
  obtain ⟨nm, qn, N, bs, bm, sn, sub, ab, col, dd, k0, k1, k2, k3, k5, ho, hA⟩ := clsB_ok c2
  obtain ⟨oc, od, dV, kV, doc, pm, an, cdv, ct, osl, rfl, lk, hcd, hD, hK⟩ := F.ex
  have eD : dV = .none := by
    rcases hD with ⟨_, z⟩ | ⟨z, _⟩
    · exact z
    · exact absurd rfl z
  subst eD
  refine { ff := hf, gC := PySem.W.mg_of X G (eqO_ok c1), cls := ⟨nm, qn, N, bs, bm, sn, sub, ab, col, dd, k0, k1, k2, k3, k5, ?_⟩, over := ?_, sa := dObj_ok c4, ga := dObj_ok c5, gg := dObj_ok c6, noN := dObj_ok c7, iC := dObj_ok c8, tC := of_decide_eq_true c9, kC := c10, exC := of_decide_eq_true c11, tyC := of_decide_eq_true c12, hdC := c13, isC := c14, fn := ⟨q, oc, od, doc, pm, an, cdv, ct, osl, p1, p2, q1, q2, q3, q4, ?_, hcd⟩ }
  · rcases hB with ⟨rfl, rfl⟩ | ⟨rfl, rfl⟩
    · exact .inl ⟨ho, hA⟩
    · exact .inr ⟨ho, hA⟩
  · rcases hT with rfl | rfl | rfl
    · exact .inl c3
    · exact .inr (.inl c3)
    · exact .inr (.inr c3)
  · have e : kV = .none := kwNone_ok lk c15
    subst e
    exact lk
/-! ### a class that is made -/
/-- what Cls, the maker and isinstance ask of the class x -/
def fCls (x : Str) : FaX := fun K => eqO (PySem.W.nsIn K mainGlobals x) (some (some (.ref (ga K x)))) && (PySem.W.plainGet K (ga K x) Str.empty && (PySem.W.hasDictIn K (ga K x) && (PySem.W.plainOver K (ga K x) && (dObj K (.ref (ga K x)) "__setattr__" (some (.builtin "object.__setattr__")) && (PySem.W.makesIn K (ga K x) && (PySem.W.keepIn K (.ref (ga K x)) &&
  (dObj K (.ref (ga K x)) "__class__" (some (.builtin "object.__class__")) && (eqO (PySem.W.specialIn K (.builtin "object.__class__") "__get__") (some (some (.builtin "getset_descriptor.__get__"))) && (optB (PySem.W.takesIn K (.builtin "object.__class__")) (some true) && (optB (PySem.W.mroIn K (ga K x) (.type "object")) (some true) && optB (PySem.W.kitOne K (.ref (ga K x)) (.ref (ga K x))) (some true)))))))))))
structure ClsX (K : PySem.W.Frag) (x : Str) (C : Addr) : Prop where
  a : PySem.W.nsIn K mainGlobals x = some (some (.ref C))
  pg : PySem.W.plainGet K C Str.empty = true
  hd : PySem.W.hasDictIn K C = true
  po : PySem.W.plainOver K C = true
  sa : PySem.W.findIn K (.ref C) "__setattr__" = some (some (.builtin "object.__setattr__"))
  mkr : PySem.W.makesIn K C = true
  kp : PySem.W.keepIn K (.ref C) = true
  ha : PySem.W.findIn K (.ref C) "__class__" = some (some (.builtin "object.__class__"))
  hn : PySem.W.specialIn K (.builtin "object.__class__") "__get__" = some (some (.builtin "getset_descriptor.__get__"))
  ht : PySem.W.takesIn K (.builtin "object.__class__") = some true
  hm : PySem.W.mroIn K C (.type "object") = some true
  is : PySem.W.kitOne K (.ref C) (.ref C) = some true
theorem cls_mk {K : PySem.W.Frag} {x : Str} (c : fCls x K = true) : ClsX K x (ga K x) := by
  obtain ⟨c1, c⟩ := ba c
  obtain ⟨c2, c⟩ := ba c
  obtain ⟨c3, c⟩ := ba c
  obtain ⟨c4, c⟩ := ba c
  obtain ⟨c5, c⟩ := ba c
  obtain ⟨c6, c⟩ := ba c
  obtain ⟨c7, c⟩ := ba c
  obtain ⟨c8, c⟩ := ba c
  obtain ⟨c9, c⟩ := ba c
  obtain ⟨c10, c⟩ := ba c
  obtain ⟨c11, c12⟩ := ba c
  exact ⟨eqO_ok c1, c2, c3, c4, dObj_ok c5, c6, c7, dObj_ok c8, eqO_ok c9, of_decide_eq_true c10, of_decide_eq_true c11, of_decide_eq_true c12⟩
/-- isinstance, except: one against another -/
def fKit (x y : Str) (b : Bool) : FaX := fun K => optB (PySem.W.kitOne K (.ref (ga K x)) (.ref (ga K y))) (some b)
def fKitT (t : String) (y : Str) (b : Bool) : FaX := fun K => optB (PySem.W.kitOne K (.type t) (.ref (ga K y))) (some b)
def fSub (x y : Str) (b : Bool) : FaX := fun K => optB (PySem.W.subIn K (.ref (ga K x)) (.ref (ga K y))) (some b)
def fExm (x y : Str) (b : Bool) : FaX := fun K => optB (PySem.W.exmOne K (.ref (ga K x)) (.ref (ga K y))) (some b)
theorem optB_ok {a : Option Bool} {b : Option Bool} (h : optB a b = true) : a = b := of_decide_eq_true h
/-- a default () of the def at f: the one object of the tuple, and it is empty -/
def emptyT (K : PySem.W.Frag) (a : Addr) : Bool := match K.lookup a with
  | some ⟨.type c, _, .seq its _, _⟩ => decide (c = "tuple") && decide (its.toList = [])
  | _ => false
theorem emptyT_ok {K : PySem.W.Frag} {a : Addr} (h : emptyT K a = true) : ∃ (odU : Option Addr) (nU : Nat) (slU : Array (Option Value)), K.lookup a = some ⟨.type "tuple", odU, .seq [].toArray nU, slU⟩ := by
  unfold emptyT at h
  split at h
  · rename_i c od its n sl ho
    obtain ⟨h1, h2⟩ := ba h
    have h1 := of_decide_eq_true h1
    have h2 := of_decide_eq_true h2
    obtain ⟨l⟩ := its
    dsimp only at h2
    subst h1 h2
    exact ⟨od, n, sl, ho⟩
  · cases h
/-! ### the end -/
theorem walk_GX {l : PySem.W.OpenLaw} {n k : Nat} {q : Program} {loose : List Str} {XP : (Str → Option Value) → Heap → Prop} {YP : World → Heap → Prop} {d : DefRec} {x : Str}
    (hn : l.most = some n) (hn2 : n ≤ sizeLine) (hdf : d.params.defaults = []) (hr : Room k callerA)
    (F : ∀ (w : World) (mg : Str → Option Value) (fa : Addr) (h : Heap), YP w h → h.Ns mainGlobals mg → mg d.name = some (.ref fa) → ∃ K : PySem.W.Frag, K.In h ∧ ∃ (fd : FuncData) (sp : Sp),
      (∀ (s : Shared) (u : Value), BindsTo s fd ⟨[u], []⟩ [(x, u)]) ∧ (∀ (H : Hp) (a : Addr) (ns : List Int), ns.length ≤ n → SqL K H a (ns.map V.int) → sp [.ref a] H (fun v _ => v = .bl true) fun _ _ _ => False) ∧
        ∀ base : Heap, K.In base → base.Ns mainGlobals mg → Pu.FnG l.prog w K mg base CX0 k fa fd [x] sp) :
    PySem.W.WalkO q loose XP YP l.row.toRowW d [] (fun f vs => PySem.call f vs) := by
  refine Att.attach_call hn hdf ?_
  intro w s₀ s₁ mg mb fa o pm cd doc a vs ns G Y ho hd hcd hmg hobj hints hlen hg
  obtain ⟨K, KX, fd, sp, hb, hsp, hF⟩ := F w mg fa _ Y G.T.g hmg
  obtain ⟨H, hS, hK, hN, e0, old⟩ := Pu.start_env (P := l.prog) (w := w) KX G.T.g G.T.b G.T.builtins G.T.nolimit hg hobj hints (Nat.le_trans hlen hn2)
  refine codeAny_mono ((hF _ hK hN).go callerA [] s₁ H ⟨[.ref a], []⟩ [.ref a] [.ref a] _ _ rfl hr e0 (hb s₁ (.ref a)) (.cons rfl .nil) (hsp H a ns hlen hS)) ?_
  rintro (e | (_ | _ | _ | u)) s' z
  · exact (show False from z).elim
  · exact (show False from z).elim
  · exact (show False from z).elim
  · exact (show False from z).elim
  · obtain ⟨v, H', os, bare, un, ok', r, rfl⟩ := z
    cases (show u = Value.bool true from r)
    exact ⟨rfl, old H' s' un ok', os, bare⟩
/-- .. where one def of the module makes a lambda -/
theorem walk_GOX {l : PySem.W.OpenLaw} {n k : Nat} {q : Program} {loose : List Str} {XP : (Str → Option Value) → Heap → Prop} {YP : World → Heap → Prop} {d : DefRec} {x : Str} (nm : Str)
    (hn : l.most = some n) (hn2 : n ≤ sizeLine) (hdf : d.params.defaults = []) (hr : Room k callerA) (hrec : ((recsOf q).any fun e => e.name == nm) = true)
    (F : ∀ (w : World) (mg : Str → Option Value) (fa : Addr) (h : Heap), YP w h → h.Ns mainGlobals mg → mg d.name = some (.ref fa) → (∀ K : PySem.W.Frag, K.In h → Pu.NamedTab K mg nm h) → ∃ K : PySem.W.Frag, K.In h ∧
      ∃ (sp : Sp) (fd : FuncData) (c T : Addr), h.get? T = some { cls := .none, data := .fields #[] } ∧ K.lookup T = none ∧ PySem.W.CodeHd h c T ∧ (∀ (s : Shared) (u : Value), BindsTo s fd ⟨[u], []⟩ [(x, u)]) ∧
        (∀ (H : Hp) (a : Addr) (ns : List Int), ns.length ≤ n → SqL K H a (ns.map V.int) → H T = some (.tbl #[]) → sp [.ref a] H (fun v _ => v = .bl true) fun _ _ _ => False) ∧
        ∀ base : Heap, K.In base → base.Ns mainGlobals mg → LamX.TabB base mg c T → Pu.FnG l.prog w K mg base CX0 k fa fd [x] sp) :
    PySem.W.WalkO q loose XP YP l.row.toRowW d [] (fun f vs => PySem.call f vs) := by
  refine Att.attach_call hn hdf ?_
  intro w s₀ s₁ mg mb fa o pm cd doc a vs ns G Y ho hd hcd hmg hobj hints hlen hg
  have tab : ∀ K : PySem.W.Frag, K.In s₁.heap → Pu.NamedTab K mg nm s₁.heap := fun K KX f2 c T o1 fd1 e dd vs1 sl k0 k1 k2 k3 k4 k5 => by
    obtain ⟨dL, hm, hn1⟩ := List.any_eq_true.mp hrec
    have hn2 : dL.name = nm := beq_iff_eq.mp hn1
    obtain ⟨a', o', fd', c', P', h1, h2, h3, h4, h5, h6⟩ := G.T.tab dL hm
    rw [hn2, k0] at h1
    cases h1
    have g1 := KX _ _ k1
    rw [g1] at h2
    cases h2
    rw [k2] at h3
    cases h3
    rw [k3] at h4
    cases h4
    have C := PySem.W.CodeHd.of h5 h6
    obtain ⟨⟨oc, vc, e1, _, e3, e4⟩, hP⟩ := h6
    have g2 := KX _ _ k4
    rw [g2] at e1
    cases e1
    cases e3
    rw [k5] at e4
    cases e4
    exact ⟨hP, C⟩
  obtain ⟨K, KX, sp, fd, c, T, hT, nT, hc, hb, hsp, hF⟩ := F w mg fa _ Y G.T.g hmg tab
  obtain ⟨H, hS, kT, hK, hN, tb, e0, old⟩ := Pu.start_tab (P := l.prog) (w := w) KX G.T.g G.T.b G.T.builtins G.T.nolimit hg hobj hints (Nat.le_trans hlen hn2) hT nT hc G.T.bmain
  refine codeAny_mono ((hF _ hK hN tb).go callerA [] s₁ H ⟨[.ref a], []⟩ [.ref a] [.ref a] _ _ rfl hr e0 (hb s₁ (.ref a)) (.cons rfl .nil) (hsp H a ns hlen hS kT)) ?_
  rintro (e | (_ | _ | _ | u)) s' z
  · exact (show False from z).elim
  · exact (show False from z).elim
  · exact (show False from z).elim
  · exact (show False from z).elim
  · obtain ⟨v, H', os, bare, un, ok', r, rfl⟩ := z
    cases (show u = Value.bool true from r)
    exact ⟨rfl, old H' s' un ok', os, bare⟩
/-- the code object of the def x and its table, which the written part leaves out -/
def cdA (K : PySem.W.Frag) (x : Str) : Addr := match K.lookup (ga K x) with
  | some ⟨_, _, .func fd, _⟩ => (match fd.code with
    | .ref c => c
    | _ => 0)
  | _ => 0
def tbA (K : PySem.W.Frag) (x : Str) : Addr := match K.lookup (cdA K x) with
  | some ⟨_, _, .fields vs, _⟩ => (match (vs[11]? : Option Value) with
    | some (.ref t) => t
    | _ => 0)
  | _ => 0
def fTab (x : Str) : FaX := fun K => (match K.lookup (ga K x) with
  | some ⟨_, _, .func fd, _⟩ => decide (fd.code = .ref (cdA K x))
  | _ => false) && ((match K.lookup (cdA K x) with
  | some ⟨_, _, .fields vs, _⟩ => decide (vs[11]? = some (.ref (tbA K x)))
  | _ => false) && (K.lookup (tbA K x)).isNone)
theorem fTab_ok {K : PySem.W.Frag} {x : Str} {oc : Value} {od : Option Addr} {fd : FuncData} {sl : Array (Option Value)} (l : K.lookup (ga K x) = some ⟨oc, od, .func fd, sl⟩) (h : fTab x K = true) :
    fd.code = .ref (cdA K x) ∧ (∃ (e : Value) (dd : Option Addr) (vs : Array Value) (sl : Array (Option Value)), K.lookup (cdA K x) = some ⟨e, dd, .fields vs, sl⟩ ∧ vs[11]? = some (.ref (tbA K x))) ∧ K.lookup (tbA K x) = none := by
  obtain ⟨h1, h⟩ := ba h
  obtain ⟨h2, h3⟩ := ba h
  rw [l] at h1
  refine ⟨of_decide_eq_true h1, ?_, ?_⟩
  · split at h2
    · rename_i e dd vs sl ho
      exact ⟨e, dd, vs, sl, ho, of_decide_eq_true h2⟩
    · cases h2
  · cases e : K.lookup (tbA K x) with
    | none => rfl
    | some o => rw [e] at h3; cases h3
end Hx

set_option Elab.async false
set_option linter.all false
set_option maxRecDepth 100000
set_option maxHeartbeats 4000000
namespace Pk
open PySem PySem.Spec PyProof.Rows L2 Pu
open PySem.Er (ErrTxt)
section
variable {P : Program} {w : World} {K : PySem.W.Frag} {mg : Str → Option Value} {base : Heap}
theorem cal_ren {f : Addr} {fd : FuncData} (F : Fun K "renamed_on" "renamed_on" s_renamed_on f fd) (T : Txt mg) (cis_like : Cal P w K mg base 1 "is_like" spLike []) (hm : mg "renamed_on" = some (.ref f)) (b : Binds K fd ["sums", "others", "matches", "pairs"] []) : ∀ n, Cal P w K mg base (n + 2) "renamed_on" (spRen n) []
  | 0 => Cal.mk0 (ps := ["sums", "others", "matches", "pairs"]) ⟨fun _ _ _ _ h => h.elim, fun _ _ _ _ _ _ _ _ _ _ _ _ _ h => h.elim⟩ hm F.kp b
  | n + 1 => Cal.mk0 (ok_ren_step n F T cis_like (cal_ren F T cis_like hm b n)) hm F.kp b
end
def hxFn0 : List (He.DefD) := [⟨("is_integer", none), "is_integer", "is_integer", defArgs s_is_integer, defBody s_is_integer, defScope s_is_integer, [], []⟩,
  ⟨("is_count", none), "is_count", "is_count", defArgs s_is_count, defBody s_is_count, defScope s_is_count, [], []⟩,
  ⟨("is_name", none), "is_name", "is_name", defArgs s_is_name, defBody s_is_name, defScope s_is_name, [], []⟩,
  ⟨("need_events", none), "need_events", "need_events", defArgs s_need_events, defBody s_need_events, defScope s_need_events, [], []⟩,
  ⟨("need_event", none), "need_event", "need_event", defArgs s_need_event, defBody s_need_event, defScope s_need_event, [], []⟩,
  ⟨("need_tie", none), "need_tie", "need_tie", defArgs s_need_tie, defBody s_need_tie, defScope s_need_tie, [], []⟩,
  ⟨("need_ties", none), "need_ties", "need_ties", defArgs s_need_ties, defBody s_need_ties, defScope s_need_ties, [], []⟩,
  ⟨("need_limits", none), "need_limits", "need_limits", defArgs s_need_limits, defBody s_need_limits, defScope s_need_limits, [], []⟩,
  ⟨("ringed", none), "ringed", "ringed", defArgs s_ringed, defBody s_ringed, defScope s_ringed, [], []⟩,
  ⟨("need_plan", none), "need_plan", "need_plan", defArgs s_need_plan, defBody s_need_plan, defScope s_need_plan, [], []⟩,
  ⟨("places_of", none), "places_of", "places_of", defArgs s_places_of, defBody s_places_of, defScope s_places_of, [], []⟩,
  ⟨("placed_rows", none), "placed_rows", "placed_rows", defArgs s_placed_rows, defBody s_placed_rows, defScope s_placed_rows, [], []⟩,
  ⟨("close", none), "close", "close", defArgs s_close, defBody s_close, defScope s_close, [], []⟩,
  ⟨("closed_sums", none), "closed_sums", "closed_sums", defArgs s_closed_sums, defBody s_closed_sums, defScope s_closed_sums, [], []⟩,
  ⟨("profile", none), "profile", "profile", defArgs s_profile, defBody s_profile, defScope s_profile, [], []⟩,
  ⟨("is_like", none), "is_like", "is_like", defArgs s_is_like, defBody s_is_like, defScope s_is_like, [], []⟩,
  ⟨("renamed_on", none), "renamed_on", "renamed_on", defArgs s_renamed_on, defBody s_renamed_on, defScope s_renamed_on, [], []⟩,
  ⟨("renaming", none), "renaming", "renaming", defArgs s_renaming, defBody s_renaming, defScope s_renaming, [], []⟩,
  ⟨("_law_cell", none), "_law_cell", "_law_cell", defArgs s_law_cell, defBody s_law_cell, defScope s_law_cell, [], []⟩,
  ⟨("_law_box", none), "_law_box", "_law_box", defArgs s_law_box, defBody s_law_box, defScope s_law_box, [], []⟩,
  ⟨("_law_take", none), "_law_take", "_law_take", defArgs s_law_take, defBody s_law_take, defScope s_law_take, [], []⟩,
  ⟨("_law_mixed", none), "_law_mixed", "_law_mixed", defArgs s_law_mixed, defBody s_law_mixed, defScope s_law_mixed, [], []⟩,
  ⟨("_law_names", none), "_law_names", "_law_names", defArgs s_law_names, defBody s_law_names, defScope s_law_names, [], []⟩,
  ⟨("_law_lag", none), "_law_lag", "_law_lag", defArgs s_law_lag, defBody s_law_lag, defScope s_law_lag, [], []⟩,
  ⟨("_law_model", none), "_law_model", "_law_model", defArgs s_law_model, defBody s_law_model, defScope s_law_model, [], []⟩,
  ⟨("_law_plan", none), "_law_plan", "_law_plan", defArgs s_law_plan, defBody s_law_plan, defScope s_law_plan, [], []⟩,
  ⟨("_law_far", none), "_law_far", "_law_far", defArgs s_law_far, defBody s_law_far, defScope s_law_far, [], []⟩,
  ⟨("_law_leads", none), "_law_leads", "_law_leads", defArgs s_law_leads, defBody s_law_leads, defScope s_law_leads, [], []⟩,
  ⟨("_law_renamed", none), "_law_renamed", "_law_renamed", defArgs s_law_renamed, defBody s_law_renamed, defScope s_law_renamed, [], []⟩,
  ⟨("_law_second", none), "_law_second", "_law_second", defArgs s_law_second, defBody s_law_second, defScope s_law_second, [], []⟩,
  ⟨("_law_is", none), "_law_is", "_law_is", defArgs s_law_is, defBody s_law_is, defScope s_law_is, [], []⟩,
  ⟨("_law_orders", none), "_law_orders", "_law_orders", defArgs s_law_orders, defBody s_law_orders, defScope s_law_orders, [], []⟩,
  ⟨("_law_right", none), "_law_right", "_law_right", defArgs s_law_right, defBody s_law_right, defScope s_law_right, [], []⟩,
  ⟨("law", none), "law", "law", defArgs s_law, defBody s_law, defScope s_law, [], []⟩,
  ⟨("Plan", some "events"), "events", "Plan.events", defArgs s_Plan_events, defBody s_Plan_events, defScope s_Plan_events, [], []⟩,
  ⟨("Plan", some "ties"), "ties", "Plan.ties", defArgs s_Plan_ties, defBody s_Plan_ties, defScope s_Plan_ties, [], []⟩,
  ⟨("Plan", some "limits"), "limits", "Plan.limits", defArgs s_Plan_limits, defBody s_Plan_limits, defScope s_Plan_limits, [], []⟩,
  ⟨("Plan", some "__init__"), "__init__", "Plan.__init__", defArgs s_Plan___init__, defBody s_Plan___init__, defScope s_Plan___init__, [.adr (He.dflAt ("Plan", some "__init__") 0)], [("limits", .non)]⟩,
  ⟨("InvalidPlan", some "__init__"), "__init__", "InvalidPlan.__init__", defArgs (inClass (topS 16) 0), defBody (inClass (topS 16) 0), defScope (inClass (topS 16) 0), [], []⟩]
def hxFn : List (He.DefD) := hxFn0
def hxFa0 : List (Hx.FaX) := [Hx.fGlo "is_integer",
  Hx.fGlo "is_count",
  Hx.fGlo "is_name",
  Hx.fGlo "need_events",
  Hx.fGlo "need_event",
  Hx.fGlo "need_tie",
  Hx.fGlo "need_ties",
  Hx.fGlo "need_limits",
  Hx.fGlo "ringed",
  Hx.fGlo "need_plan",
  Hx.fGlo "places_of",
  Hx.fGlo "placed_rows",
  Hx.fGlo "close",
  Hx.fGlo "closed_sums",
  Hx.fGlo "profile",
  Hx.fGlo "is_like",
  Hx.fGlo "renamed_on",
  Hx.fGlo "renaming",
  Hx.fGlo "_law_cell",
  Hx.fGlo "_law_box",
  Hx.fGlo "_law_take",
  Hx.fGlo "_law_mixed",
  Hx.fGlo "_law_names",
  Hx.fGlo "_law_lag",
  Hx.fGlo "_law_model",
  Hx.fGlo "_law_plan",
  Hx.fGlo "_law_far",
  Hx.fGlo "_law_leads",
  Hx.fGlo "_law_renamed",
  Hx.fGlo "_law_second",
  Hx.fGlo "_law_is",
  Hx.fGlo "_law_orders",
  Hx.fGlo "_law_right",
  Hx.fGlo "law",
  Hx.fCls "Plan",
  Hx.fNo "Plan" "order",
  Hx.fNo "Plan" "rows",
  Hx.fNo "Plan" "caps",
  Hx.fMe "Plan" "events",
  Hx.fFn "Plan" "events"]
def hxFa1 : List (Hx.FaX) := [Hx.fMe "Plan" "ties",
  Hx.fFn "Plan" "ties",
  Hx.fMe "Plan" "limits",
  Hx.fFn "Plan" "limits",
  Hx.fMe "Plan" "__init__",
  Hx.fFn "Plan" "__init__",
  fun K => Hx.emptyT K (He.dflAt ("Plan", some "__init__") 0 K),
  Hx.fErr "InvalidPlan" "value" "ValueError.__new__" "ValueError" PySem.Er.vT,
  Hx.fFree "all",
  Hx.fFree "bool",
  Hx.fFree "dict",
  Hx.fFree "enumerate",
  Hx.fFree "int",
  Hx.fFree "isinstance",
  Hx.fFree "len",
  Hx.fFree "list",
  Hx.fFree "max",
  Hx.fFree "min",
  Hx.fFree "range",
  Hx.fFree "sorted",
  Hx.fFree "str",
  Hx.fFree "tuple",
  Hx.fFree "zip",
  Hx.fStr "NOTHING" "",
  Hx.fStr "LETTERS" "abcdefghijklmnopqrstuvwxyz",
  Hx.fInt "LONGEST_NAME" 8,
  Hx.fInt "BILLION" 1000000000,
  Hx.fInt "MOST_EVENTS" 8,
  Hx.fInt "MOST_TIES" 60]
def hxFa : List (Hx.FaX) := hxFa0 ++ (hxFa1)
def hxNames0 : List (PySem.Str) := [("_wall" : PySem.Str),
  ("NOTHING" : PySem.Str),
  ("places_of" : PySem.Str),
  ("placed_rows" : PySem.Str),
  ("close" : PySem.Str),
  ("closed_sums" : PySem.Str),
  ("PlanError" : PySem.Str),
  ("MissingError" : PySem.Str),
  ("InvalidInteger" : PySem.Str),
  ("InvalidName" : PySem.Str),
  ("InvalidEvents" : PySem.Str),
  ("InvalidTies" : PySem.Str),
  ("InvalidTie" : PySem.Str),
  ("InvalidLimits" : PySem.Str),
  ("InvalidPlan" : PySem.Str),
  ("Duplicate" : PySem.Str),
  ("Ring" : PySem.Str),
  ("UnknownEvent" : PySem.Str),
  ("LETTERS" : PySem.Str),
  ("LONGEST_NAME" : PySem.Str),
  ("BILLION" : PySem.Str),
  ("is_integer" : PySem.Str),
  ("is_count" : PySem.Str),
  ("is_name" : PySem.Str),
  ("written" : PySem.Str),
  ("MOST_EVENTS" : PySem.Str),
  ("MOST_TIES" : PySem.Str),
  ("need_events" : PySem.Str),
  ("need_event" : PySem.Str),
  ("need_tie" : PySem.Str),
  ("need_ties" : PySem.Str),
  ("need_limits" : PySem.Str),
  ("ringed" : PySem.Str),
  ("Plan" : PySem.Str),
  ("need_plan" : PySem.Str),
  ("profile" : PySem.Str),
  ("is_like" : PySem.Str),
  ("renamed_on" : PySem.Str),
  ("renaming" : PySem.Str),
  ("_law_cell" : PySem.Str)]
def hxNames1 : List (PySem.Str) := [("_law_box" : PySem.Str),
  ("_law_take" : PySem.Str),
  ("_law_mixed" : PySem.Str),
  ("_law_names" : PySem.Str),
  ("_law_lag" : PySem.Str),
  ("_law_model" : PySem.Str),
  ("_law_plan" : PySem.Str),
  ("_law_far" : PySem.Str),
  ("_law_leads" : PySem.Str),
  ("_law_renamed" : PySem.Str),
  ("_law_second" : PySem.Str),
  ("_law_is" : PySem.Str),
  ("_law_orders" : PySem.Str),
  ("_law_right" : PySem.Str)]
def hxNames : List (PySem.Str) := hxNames0 ++ (hxNames1)
abbrev hxR : PySem.W.OpenRow := PySem.W.OpenLaw.row PySem.Challenge.rw_pileups_k47_renamings
abbrev hxK : PySem.W.Hook := Hx.hookX 5 hxFa hxFn
def hxOb (s : PySem.W.SharedT) : He.AlD := Hx.obsXG 5 hxFa hxFn (HandSHeadRun.getT s)
theorem hxOb_eq (s : PySem.W.SharedT) : hxOb s = hxK.obs s.abs := Hx.obsXG_eq (HandSHeadRun.getT_eq s)
set_option maxHeartbeats 0 in
theorem hxRun (w : World) : HandSHeadRun.RunEq hxR (PySem.W.view hxR.prog [60]) hxK hxOb 20000 hxNames w := by
  intro os
  kernel_rfl
theorem all_mk {l : PySem.W.OpenLaw} {w : World} {K : PySem.W.Frag} {h : Heap} {mg : Str → Option Value} {fa : Addr} (X : K.In h) (G : h.Ns mainGlobals mg) (hfa : mg "law" = some (.ref fa)) (c : Hx.SaysX hxFa hxFn K) :
    ∃ fd : FuncData, (∀ (s : Shared) (v : Value), BindsTo s fd ⟨[v], []⟩ [("_law_script", v)]) ∧ ∀ base : Heap, K.In base → base.Ns mainGlobals mg → FnG l.prog w K mg base CX0 14 fa fd ["_law_script"] (spLaw K) := by
  have T : Txt mg := ⟨He.free_ok X G (c.fact 48), He.free_ok X G (c.fact 49), He.free_ok X G (c.fact 50), He.free_ok X G (c.fact 51), He.free_ok X G (c.fact 52), He.free_ok X G (c.fact 53), He.free_ok X G (c.fact 54), He.free_ok X G (c.fact 55), He.free_ok X G (c.fact 56), He.free_ok X G (c.fact 57), He.free_ok X G (c.fact 58), He.free_ok X G (c.fact 59), He.free_ok X G (c.fact 60), He.free_ok X G (c.fact 61), He.free_ok X G (c.fact 62), He.str_ok X G (c.fact 63), He.str_ok X G (c.fact 64), He.int_ok X G (c.fact 65), He.int_ok X G (c.fact 66), He.int_ok X G (c.fact 67), He.int_ok X G (c.fact 68)⟩
  have a_is_integer : PySem.W.nsIn K mainGlobals "is_integer" = some (some (.ref (He.ga K "is_integer"))) := He.eqO_ok (c.fact 0)
  obtain ⟨fd_is_integer, F_is_integer⟩ : ∃ fd, Fun K "is_integer" "is_integer" s_is_integer (He.ga K "is_integer") fd := c.fun_ 0
  have b_is_integer := F_is_integer.binds (ps := ["value"]) fun _ _ _ _ _ _ us hl => match us, hl with | [_], _ => rfl
  have a_is_count : PySem.W.nsIn K mainGlobals "is_count" = some (some (.ref (He.ga K "is_count"))) := He.eqO_ok (c.fact 1)
  obtain ⟨fd_is_count, F_is_count⟩ : ∃ fd, Fun K "is_count" "is_count" s_is_count (He.ga K "is_count") fd := c.fun_ 1
  have b_is_count := F_is_count.binds (ps := ["value"]) fun _ _ _ _ _ _ us hl => match us, hl with | [_], _ => rfl
  have a_is_name : PySem.W.nsIn K mainGlobals "is_name" = some (some (.ref (He.ga K "is_name"))) := He.eqO_ok (c.fact 2)
  obtain ⟨fd_is_name, F_is_name⟩ : ∃ fd, Fun K "is_name" "is_name" s_is_name (He.ga K "is_name") fd := c.fun_ 2
  have b_is_name := F_is_name.binds (ps := ["value"]) fun _ _ _ _ _ _ us hl => match us, hl with | [_], _ => rfl
  have a_need_events : PySem.W.nsIn K mainGlobals "need_events" = some (some (.ref (He.ga K "need_events"))) := He.eqO_ok (c.fact 3)
  obtain ⟨fd_need_events, F_need_events⟩ : ∃ fd, Fun K "need_events" "need_events" s_need_events (He.ga K "need_events") fd := c.fun_ 3
  have b_need_events := F_need_events.binds (ps := ["events"]) fun _ _ _ _ _ _ us hl => match us, hl with | [_], _ => rfl
  have a_need_event : PySem.W.nsIn K mainGlobals "need_event" = some (some (.ref (He.ga K "need_event"))) := He.eqO_ok (c.fact 4)
  obtain ⟨fd_need_event, F_need_event⟩ : ∃ fd, Fun K "need_event" "need_event" s_need_event (He.ga K "need_event") fd := c.fun_ 4
  have b_need_event := F_need_event.binds (ps := ["events", "event"]) fun _ _ _ _ _ _ us hl => match us, hl with | [_, _], _ => rfl
  have a_need_tie : PySem.W.nsIn K mainGlobals "need_tie" = some (some (.ref (He.ga K "need_tie"))) := He.eqO_ok (c.fact 5)
  obtain ⟨fd_need_tie, F_need_tie⟩ : ∃ fd, Fun K "need_tie" "need_tie" s_need_tie (He.ga K "need_tie") fd := c.fun_ 5
  have b_need_tie := F_need_tie.binds (ps := ["events", "tie"]) fun _ _ _ _ _ _ us hl => match us, hl with | [_, _], _ => rfl
  have a_need_ties : PySem.W.nsIn K mainGlobals "need_ties" = some (some (.ref (He.ga K "need_ties"))) := He.eqO_ok (c.fact 6)
  obtain ⟨fd_need_ties, F_need_ties⟩ : ∃ fd, Fun K "need_ties" "need_ties" s_need_ties (He.ga K "need_ties") fd := c.fun_ 6
  have b_need_ties := F_need_ties.binds (ps := ["events", "ties"]) fun _ _ _ _ _ _ us hl => match us, hl with | [_, _], _ => rfl
  have a_need_limits : PySem.W.nsIn K mainGlobals "need_limits" = some (some (.ref (He.ga K "need_limits"))) := He.eqO_ok (c.fact 7)
  obtain ⟨fd_need_limits, F_need_limits⟩ : ∃ fd, Fun K "need_limits" "need_limits" s_need_limits (He.ga K "need_limits") fd := c.fun_ 7
  have b_need_limits := F_need_limits.binds (ps := ["events", "limits"]) fun _ _ _ _ _ _ us hl => match us, hl with | [_, _], _ => rfl
  have a_ringed : PySem.W.nsIn K mainGlobals "ringed" = some (some (.ref (He.ga K "ringed"))) := He.eqO_ok (c.fact 8)
  obtain ⟨fd_ringed, F_ringed⟩ : ∃ fd, Fun K "ringed" "ringed" s_ringed (He.ga K "ringed") fd := c.fun_ 8
  have b_ringed := F_ringed.binds (ps := ["events", "ties"]) fun _ _ _ _ _ _ us hl => match us, hl with | [_, _], _ => rfl
  have a_need_plan : PySem.W.nsIn K mainGlobals "need_plan" = some (some (.ref (He.ga K "need_plan"))) := He.eqO_ok (c.fact 9)
  obtain ⟨fd_need_plan, F_need_plan⟩ : ∃ fd, Fun K "need_plan" "need_plan" s_need_plan (He.ga K "need_plan") fd := c.fun_ 9
  have b_need_plan := F_need_plan.binds (ps := ["plan"]) fun _ _ _ _ _ _ us hl => match us, hl with | [_], _ => rfl
  have a_places_of : PySem.W.nsIn K mainGlobals "places_of" = some (some (.ref (He.ga K "places_of"))) := He.eqO_ok (c.fact 10)
  obtain ⟨fd_places_of, F_places_of⟩ : ∃ fd, Fun K "places_of" "places_of" s_places_of (He.ga K "places_of") fd := c.fun_ 10
  have b_places_of := F_places_of.binds (ps := ["plan"]) fun _ _ _ _ _ _ us hl => match us, hl with | [_], _ => rfl
  have a_placed_rows : PySem.W.nsIn K mainGlobals "placed_rows" = some (some (.ref (He.ga K "placed_rows"))) := He.eqO_ok (c.fact 11)
  obtain ⟨fd_placed_rows, F_placed_rows⟩ : ∃ fd, Fun K "placed_rows" "placed_rows" s_placed_rows (He.ga K "placed_rows") fd := c.fun_ 11
  have b_placed_rows := F_placed_rows.binds (ps := ["plan"]) fun _ _ _ _ _ _ us hl => match us, hl with | [_], _ => rfl
  have a_close : PySem.W.nsIn K mainGlobals "close" = some (some (.ref (He.ga K "close"))) := He.eqO_ok (c.fact 12)
  obtain ⟨fd_close, F_close⟩ : ∃ fd, Fun K "close" "close" s_close (He.ga K "close") fd := c.fun_ 12
  have b_close := F_close.binds (ps := ["places", "placed"]) fun _ _ _ _ _ _ us hl => match us, hl with | [_, _], _ => rfl
  have a_closed_sums : PySem.W.nsIn K mainGlobals "closed_sums" = some (some (.ref (He.ga K "closed_sums"))) := He.eqO_ok (c.fact 13)
  obtain ⟨fd_closed_sums, F_closed_sums⟩ : ∃ fd, Fun K "closed_sums" "closed_sums" s_closed_sums (He.ga K "closed_sums") fd := c.fun_ 13
  have b_closed_sums := F_closed_sums.binds (ps := ["plan"]) fun _ _ _ _ _ _ us hl => match us, hl with | [_], _ => rfl
  have a_profile : PySem.W.nsIn K mainGlobals "profile" = some (some (.ref (He.ga K "profile"))) := He.eqO_ok (c.fact 14)
  obtain ⟨fd_profile, F_profile⟩ : ∃ fd, Fun K "profile" "profile" s_profile (He.ga K "profile") fd := c.fun_ 14
  have b_profile := F_profile.binds (ps := ["sums", "event"]) fun _ _ _ _ _ _ us hl => match us, hl with | [_, _], _ => rfl
  have a_is_like : PySem.W.nsIn K mainGlobals "is_like" = some (some (.ref (He.ga K "is_like"))) := He.eqO_ok (c.fact 15)
  obtain ⟨fd_is_like, F_is_like⟩ : ∃ fd, Fun K "is_like" "is_like" s_is_like (He.ga K "is_like") fd := c.fun_ 15
  have b_is_like := F_is_like.binds (ps := ["sums", "others", "event", "renamed", "pairs"]) fun _ _ _ _ _ _ us hl => match us, hl with | [_, _, _, _, _], _ => rfl
  have a_renamed_on : PySem.W.nsIn K mainGlobals "renamed_on" = some (some (.ref (He.ga K "renamed_on"))) := He.eqO_ok (c.fact 16)
  obtain ⟨fd_renamed_on, F_renamed_on⟩ : ∃ fd, Fun K "renamed_on" "renamed_on" s_renamed_on (He.ga K "renamed_on") fd := c.fun_ 16
  have b_renamed_on := F_renamed_on.binds (ps := ["sums", "others", "matches", "pairs"]) fun _ _ _ _ _ _ us hl => match us, hl with | [_, _, _, _], _ => rfl
  have a_renaming : PySem.W.nsIn K mainGlobals "renaming" = some (some (.ref (He.ga K "renaming"))) := He.eqO_ok (c.fact 17)
  obtain ⟨fd_renaming, F_renaming⟩ : ∃ fd, Fun K "renaming" "renaming" s_renaming (He.ga K "renaming") fd := c.fun_ 17
  have b_renaming := F_renaming.binds (ps := ["one", "other"]) fun _ _ _ _ _ _ us hl => match us, hl with | [_, _], _ => rfl
  have a__law_cell : PySem.W.nsIn K mainGlobals "_law_cell" = some (some (.ref (He.ga K "_law_cell"))) := He.eqO_ok (c.fact 18)
  obtain ⟨fd__law_cell, F__law_cell⟩ : ∃ fd, Fun K "_law_cell" "_law_cell" s_law_cell (He.ga K "_law_cell") fd := c.fun_ 18
  have b__law_cell := F__law_cell.binds (ps := ["_law_script", "_law_k"]) fun _ _ _ _ _ _ us hl => match us, hl with | [_, _], _ => rfl
  have a__law_box : PySem.W.nsIn K mainGlobals "_law_box" = some (some (.ref (He.ga K "_law_box"))) := He.eqO_ok (c.fact 19)
  obtain ⟨fd__law_box, F__law_box⟩ : ∃ fd, Fun K "_law_box" "_law_box" s_law_box (He.ga K "_law_box") fd := c.fun_ 19
  have b__law_box := F__law_box.binds (ps := ["_law_cell_here"]) fun _ _ _ _ _ _ us hl => match us, hl with | [_], _ => rfl
  have a__law_take : PySem.W.nsIn K mainGlobals "_law_take" = some (some (.ref (He.ga K "_law_take"))) := He.eqO_ok (c.fact 20)
  obtain ⟨fd__law_take, F__law_take⟩ : ∃ fd, Fun K "_law_take" "_law_take" s_law_take (He.ga K "_law_take") fd := c.fun_ 20
  have b__law_take := F__law_take.binds (ps := ["_law_box_here", "_law_many"]) fun _ _ _ _ _ _ us hl => match us, hl with | [_, _], _ => rfl
  have a__law_mixed : PySem.W.nsIn K mainGlobals "_law_mixed" = some (some (.ref (He.ga K "_law_mixed"))) := He.eqO_ok (c.fact 21)
  obtain ⟨fd__law_mixed, F__law_mixed⟩ : ∃ fd, Fun K "_law_mixed" "_law_mixed" s_law_mixed (He.ga K "_law_mixed") fd := c.fun_ 21
  have b__law_mixed := F__law_mixed.binds (ps := ["_law_box_here", "_law_some"]) fun _ _ _ _ _ _ us hl => match us, hl with | [_, _], _ => rfl
  have a__law_names : PySem.W.nsIn K mainGlobals "_law_names" = some (some (.ref (He.ga K "_law_names"))) := He.eqO_ok (c.fact 22)
  obtain ⟨fd__law_names, F__law_names⟩ : ∃ fd, Fun K "_law_names" "_law_names" s_law_names (He.ga K "_law_names") fd := c.fun_ 22
  have b__law_names := F__law_names.binds (ps := ["_law_box_here", "_law_many"]) fun _ _ _ _ _ _ us hl => match us, hl with | [_, _], _ => rfl
  have a__law_lag : PySem.W.nsIn K mainGlobals "_law_lag" = some (some (.ref (He.ga K "_law_lag"))) := He.eqO_ok (c.fact 23)
  obtain ⟨fd__law_lag, F__law_lag⟩ : ∃ fd, Fun K "_law_lag" "_law_lag" s_law_lag (He.ga K "_law_lag") fd := c.fun_ 23
  have b__law_lag := F__law_lag.binds (ps := ["_law_box_here"]) fun _ _ _ _ _ _ us hl => match us, hl with | [_], _ => rfl
  have a__law_model : PySem.W.nsIn K mainGlobals "_law_model" = some (some (.ref (He.ga K "_law_model"))) := He.eqO_ok (c.fact 24)
  obtain ⟨fd__law_model, F__law_model⟩ : ∃ fd, Fun K "_law_model" "_law_model" s_law_model (He.ga K "_law_model") fd := c.fun_ 24
  have b__law_model := F__law_model.binds (ps := ["_law_box_here", "_law_many", "_law_most"]) fun _ _ _ _ _ _ us hl => match us, hl with | [_, _, _], _ => rfl
  have a__law_plan : PySem.W.nsIn K mainGlobals "_law_plan" = some (some (.ref (He.ga K "_law_plan"))) := He.eqO_ok (c.fact 25)
  obtain ⟨fd__law_plan, F__law_plan⟩ : ∃ fd, Fun K "_law_plan" "_law_plan" s_law_plan (He.ga K "_law_plan") fd := c.fun_ 25
  have b__law_plan := F__law_plan.binds (ps := ["_law_model_here"]) fun _ _ _ _ _ _ us hl => match us, hl with | [_], _ => rfl
  have a__law_far : PySem.W.nsIn K mainGlobals "_law_far" = some (some (.ref (He.ga K "_law_far"))) := He.eqO_ok (c.fact 26)
  obtain ⟨fd__law_far, F__law_far⟩ : ∃ fd, Fun K "_law_far" "_law_far" s_law_far (He.ga K "_law_far") fd := c.fun_ 26
  have b__law_far := F__law_far.binds (ps := ["_law_model_here", "_law_begin"]) fun _ _ _ _ _ _ us hl => match us, hl with | [_, _], _ => rfl
  have a__law_leads : PySem.W.nsIn K mainGlobals "_law_leads" = some (some (.ref (He.ga K "_law_leads"))) := He.eqO_ok (c.fact 27)
  obtain ⟨fd__law_leads, F__law_leads⟩ : ∃ fd, Fun K "_law_leads" "_law_leads" s_law_leads (He.ga K "_law_leads") fd := c.fun_ 27
  have b__law_leads := F__law_leads.binds (ps := ["_law_model_here"]) fun _ _ _ _ _ _ us hl => match us, hl with | [_], _ => rfl
  have a__law_renamed : PySem.W.nsIn K mainGlobals "_law_renamed" = some (some (.ref (He.ga K "_law_renamed"))) := He.eqO_ok (c.fact 28)
  obtain ⟨fd__law_renamed, F__law_renamed⟩ : ∃ fd, Fun K "_law_renamed" "_law_renamed" s_law_renamed (He.ga K "_law_renamed") fd := c.fun_ 28
  have b__law_renamed := F__law_renamed.binds (ps := ["_law_model_here", "_law_turned", "_law_marks"]) fun _ _ _ _ _ _ us hl => match us, hl with | [_, _, _], _ => rfl
  have a__law_second : PySem.W.nsIn K mainGlobals "_law_second" = some (some (.ref (He.ga K "_law_second"))) := He.eqO_ok (c.fact 29)
  obtain ⟨fd__law_second, F__law_second⟩ : ∃ fd, Fun K "_law_second" "_law_second" s_law_second (He.ga K "_law_second") fd := c.fun_ 29
  have b__law_second := F__law_second.binds (ps := ["_law_box_here", "_law_model_here"]) fun _ _ _ _ _ _ us hl => match us, hl with | [_, _], _ => rfl
  have a__law_is : PySem.W.nsIn K mainGlobals "_law_is" = some (some (.ref (He.ga K "_law_is"))) := He.eqO_ok (c.fact 30)
  obtain ⟨fd__law_is, F__law_is⟩ : ∃ fd, Fun K "_law_is" "_law_is" s_law_is (He.ga K "_law_is") fd := c.fun_ 30
  have b__law_is := F__law_is.binds (ps := ["_law_turned", "_law_leads_here", "_law_left"]) fun _ _ _ _ _ _ us hl => match us, hl with | [_, _, _], _ => rfl
  have a__law_orders : PySem.W.nsIn K mainGlobals "_law_orders" = some (some (.ref (He.ga K "_law_orders"))) := He.eqO_ok (c.fact 31)
  obtain ⟨fd__law_orders, F__law_orders⟩ : ∃ fd, Fun K "_law_orders" "_law_orders" s_law_orders (He.ga K "_law_orders") fd := c.fun_ 31
  have b__law_orders := F__law_orders.binds (ps := ["_law_some"]) fun _ _ _ _ _ _ us hl => match us, hl with | [_], _ => rfl
  have a__law_right : PySem.W.nsIn K mainGlobals "_law_right" = some (some (.ref (He.ga K "_law_right"))) := He.eqO_ok (c.fact 32)
  obtain ⟨fd__law_right, F__law_right⟩ : ∃ fd, Fun K "_law_right" "_law_right" s_law_right (He.ga K "_law_right") fd := c.fun_ 32
  have b__law_right := F__law_right.binds (ps := ["_law_one", "_law_other", "_law_sure"]) fun _ _ _ _ _ _ us hl => match us, hl with | [_, _, _], _ => rfl
  have a_law : PySem.W.nsIn K mainGlobals "law" = some (some (.ref (He.ga K "law"))) := He.eqO_ok (c.fact 33)
  obtain ⟨fd_law, F_law⟩ : ∃ fd, Fun K "law" "law" s_law (He.ga K "law") fd := c.fun_ 33
  obtain ⟨C, eC⟩ : ∃ C, C = He.ga K "Plan" := ⟨_, rfl⟩
  have XC : Hx.ClsX K "Plan" C := by
    rw [eC]
    exact Hx.cls_mk (c.fact 34)
  obtain ⟨aC, pgC, hdC, poC, saC, mkC, kpC, haC, hnC, htC, hmC, isC⟩ := XC
  have n_order : PySem.W.findIn K (.ref C) "order" = some none := by
    rw [eC]
    exact Hx.dObj_ok (c.fact 35)
  have n_rows : PySem.W.findIn K (.ref C) "rows" = some none := by
    rw [eC]
    exact Hx.dObj_ok (c.fact 36)
  have n_caps : PySem.W.findIn K (.ref C) "caps" = some none := by
    rw [eC]
    exact Hx.dObj_ok (c.fact 37)
  have CC : Cls K C := ⟨pgC, hdC, poC, saC⟩
  obtain ⟨f_Plan_events, fd_Plan_events, F_Plan_events, a_Plan_events, i_Plan_events⟩ : ∃ f fd, Fun K "events" "Plan.events" s_Plan_events f fd ∧ PySem.W.findIn K (.ref C) "events" = some (some (.ref f)) ∧ PySem.W.isFn K (.ref f) = true := by
    rw [eC]
    obtain ⟨fd, F⟩ := c.fun_ 34
    exact ⟨_, fd, F, Hx.dObj_ok (c.fact 38), (c.fact 39)⟩
  have k_Plan_events := F_Plan_events.kp
  have b_Plan_events := F_Plan_events.binds (ps := ["self"]) fun _ _ _ _ _ _ us hl => match us, hl with | [_], _ => rfl
  obtain ⟨f_Plan_ties, fd_Plan_ties, F_Plan_ties, a_Plan_ties, i_Plan_ties⟩ : ∃ f fd, Fun K "ties" "Plan.ties" s_Plan_ties f fd ∧ PySem.W.findIn K (.ref C) "ties" = some (some (.ref f)) ∧ PySem.W.isFn K (.ref f) = true := by
    rw [eC]
    obtain ⟨fd, F⟩ := c.fun_ 35
    exact ⟨_, fd, F, Hx.dObj_ok (c.fact 40), (c.fact 41)⟩
  have k_Plan_ties := F_Plan_ties.kp
  have b_Plan_ties := F_Plan_ties.binds (ps := ["self"]) fun _ _ _ _ _ _ us hl => match us, hl with | [_], _ => rfl
  obtain ⟨f_Plan_limits, fd_Plan_limits, F_Plan_limits, a_Plan_limits, i_Plan_limits⟩ : ∃ f fd, Fun K "limits" "Plan.limits" s_Plan_limits f fd ∧ PySem.W.findIn K (.ref C) "limits" = some (some (.ref f)) ∧ PySem.W.isFn K (.ref f) = true := by
    rw [eC]
    obtain ⟨fd, F⟩ := c.fun_ 36
    exact ⟨_, fd, F, Hx.dObj_ok (c.fact 42), (c.fact 43)⟩
  have k_Plan_limits := F_Plan_limits.kp
  have b_Plan_limits := F_Plan_limits.binds (ps := ["self"]) fun _ _ _ _ _ _ us hl => match us, hl with | [_], _ => rfl
  obtain ⟨f_init, fd_init, U_init, eU, F_init, a_init, i_init⟩ : ∃ f fd U, U = He.dflAt ("Plan", some "__init__") 0 K ∧ FunD K "__init__" "Plan.__init__" (defArgs s_Plan___init__) (defBody s_Plan___init__) (defScope s_Plan___init__) [.ref U] [("limits", .non)] f fd ∧ PySem.W.findIn K (.ref C) "__init__" = some (some (.ref f)) ∧ PySem.W.isFn K (.ref f) = true := by
    rw [eC]
    obtain ⟨fd, F⟩ := c.def_ 37
    exact ⟨_, fd, _, rfl, F, Hx.dObj_ok (c.fact 44), (c.fact 45)⟩
  obtain ⟨odU, nU, slU, u_init⟩ : ∃ (odU : Option Addr) (nU : Nat) (slU : Array (Option Value)), K.lookup U_init = some ⟨.type "tuple", odU, .seq [].toArray nU, slU⟩ := by
    rw [eU]
    exact Hx.emptyT_ok (c.fact 46)
  obtain ⟨d_init, rd_init, b_init⟩ := F_init.binds (ps := ["self", "events", "ties", "limits"]) 3 1 (by simp) rfl (fun T D doc pm an cdv ct us its ks h1 h2 h3 => match us, its, ks, h1, h2, h3 with
    | [_, _, _], [_], [_], _, _, _ => ⟨_, rfl, _, _, _, _, _, _, rfl, rfl, rfl⟩) (by simp)
  obtain ⟨d1_init, rd1_init, b1_init⟩ := F_init.binds (ps := ["self", "events", "ties", "limits"]) 2 0 (by simp) rfl (fun T D doc pm an cdv ct us its ks h1 h2 h3 => match us, its, ks, h1, h2, h3 with
    | [_, _], [_], [_], _, _, _ => ⟨_, rfl, _, _, _, _, _, _, rfl, rfl, rfl⟩) (by simp)
  obtain ⟨j_init, m_init, kb_init⟩ := F_init.kbinds (ps := ["self", "events", "ties", "limits"]) 3 ["limits"] [] (fun us its mv ws => us ++ ws) (by simp) (by simp) (fun q hq => nomatch hq) (fun r1 r2 r3 r4 => r1.append r4) fun T D doc pm an cdv ct us its mv ws h1 h2 h3 h4 => match us, its, mv, ws, h1, h2, h3, h4 with
    | [_, _, _], [_], [], [_], _, _, _, _ => ⟨_, rfl, rfl⟩
  obtain ⟨E_InvalidPlan, eE_InvalidPlan⟩ : ∃ E, E = He.ga K "InvalidPlan" := ⟨_, rfl⟩
  obtain ⟨fe_InvalidPlan, e_InvalidPlan⟩ : ∃ fe, PySem.Er.ErrTxt K mg "InvalidPlan" "value" E_InvalidPlan fe := by
    rw [eE_InvalidPlan]
    obtain ⟨fd, F⟩ := c.def_ 38
    exact ⟨_, Hx.err_mk X G (by decide) (.inl ⟨rfl, rfl⟩) (.inl rfl) (c.fact 47) F⟩
  have xe_InvalidPlan := e_InvalidPlan.exC
  have e := hfa.symm.trans (PySem.W.mg_of X G a_law)
  cases e
  obtain ⟨_, _, _, _, _, _, _, _, _, efL, _, _⟩ := id F_law.ex
  refine ⟨fd_law, fun s v => by rw [efL]; exact .of_eq rfl, fun base _ _ => ?_⟩
  have PC : PlanC K C := ⟨CC, n_order, n_rows, n_caps⟩
  have PI : PlanI K C := ⟨PC, haC, hnC, htC, hmC, isC⟩
  have m_Plan := PySem.W.mg_of X G aC
  have cint := Cal.mk0 (ok_is_integer (P := l.prog) (w := w) (base := base) F_is_integer T) (PySem.W.mg_of X G a_is_integer) F_is_integer.kp b_is_integer
  have ccnt := Cal.mk0 (ok_is_count (P := l.prog) (w := w) (base := base) F_is_count T cint) (PySem.W.mg_of X G a_is_count) F_is_count.kp b_is_count
  have cname := Cal.mk0 (ok_is_name (P := l.prog) (w := w) (base := base) F_is_name T) (PySem.W.mg_of X G a_is_name) F_is_name.kp b_is_name
  have cnevs := Cal.mk0 (ok_need_events (P := l.prog) (w := w) (base := base) F_need_events T cname) (PySem.W.mg_of X G a_need_events) F_need_events.kp b_need_events
  have cnev := Cal.mk0 (ok_need_event (P := l.prog) (w := w) (K := K) (base := base) F_need_event T) (PySem.W.mg_of X G a_need_event) F_need_event.kp b_need_event
  have cntie := Cal.mk0 (ok_need_tie (P := l.prog) (w := w) (base := base) F_need_tie T cnev ccnt) (PySem.W.mg_of X G a_need_tie) F_need_tie.kp b_need_tie
  have cnties := Cal.mk0 (ok_need_ties (P := l.prog) (w := w) (base := base) F_need_ties T cntie) (PySem.W.mg_of X G a_need_ties) F_need_ties.kp b_need_ties
  have cnlims := Cal.mk0 (ok_need_limits (P := l.prog) (w := w) (base := base) F_need_limits T ccnt) (PySem.W.mg_of X G a_need_limits) F_need_limits.kp b_need_limits
  have cring := Cal.mk0 (ok_ringed (P := l.prog) (w := w) (K := K) (base := base) F_ringed T) (PySem.W.mg_of X G a_ringed) F_ringed.kp b_ringed
  have okI := ok_init (P := l.prog) (w := w) (base := base) F_init T PC cnevs cnties cnlims cring
  have cPlan : CalMk l.prog w K mg base CX0 5 "Plan" C "limits" (spInit K C) := ⟨f_init, _, _, d_init, _, ⟨mkC, a_init, i_init, kpC⟩, okI, m_Plan, b_init, rd_init, kb_init⟩
  have mEvents : CalM l.prog w K mg base 1 C "events" (spPEvents K C) := ⟨f_Plan_events, _, _, ok_p_events F_Plan_events T PC, b_Plan_events, a_Plan_events, i_Plan_events, k_Plan_events⟩
  have mTies : CalM l.prog w K mg base 1 C "ties" (spPTies K C) := ⟨f_Plan_ties, _, _, ok_p_ties F_Plan_ties T PC, b_Plan_ties, a_Plan_ties, i_Plan_ties, k_Plan_ties⟩
  have mLimits : CalM l.prog w K mg base 1 C "limits" (spPLimits K C) := ⟨f_Plan_limits, _, _, ok_p_limits F_Plan_limits T PC, b_Plan_limits, a_Plan_limits, i_Plan_limits, k_Plan_limits⟩
  have cnp := CalX.mk0 (ok_need_plan (P := l.prog) (w := w) (base := base) F_need_plan T PI m_Plan e_InvalidPlan) (PySem.W.mg_of X G a_need_plan) F_need_plan.kp b_need_plan
  have cpl := Cal.mk0 (ok_places_of (P := l.prog) (w := w) (base := base) F_places_of T PI mEvents) (PySem.W.mg_of X G a_places_of) F_places_of.kp b_places_of
  have crows := Cal.mk0 (ok_placed_rows F_placed_rows T PI mEvents mTies mLimits) (PySem.W.mg_of X G a_placed_rows) F_placed_rows.kp b_placed_rows
  have cclose := Cal.mk0 (ok_close (P := l.prog) (w := w) (K := K) (base := base) F_close T) (PySem.W.mg_of X G a_close) F_close.kp b_close
  have ccell := Cal.mk0 (ok_cell (P := l.prog) (w := w) (K := K) (base := base) F__law_cell T) (PySem.W.mg_of X G a__law_cell) F__law_cell.kp b__law_cell
  have cbox := Cal.mk0 (ok_box (P := l.prog) (w := w) (K := K) (base := base) F__law_box T) (PySem.W.mg_of X G a__law_box) F__law_box.kp b__law_box
  have ctake := Cal.mk0 (ok_take (P := l.prog) (w := w) (K := K) (base := base) F__law_take T) (PySem.W.mg_of X G a__law_take) F__law_take.kp b__law_take
  have cmix := Cal.mk0 (ok_mixed (K := K) F__law_mixed T ctake) (PySem.W.mg_of X G a__law_mixed) F__law_mixed.kp b__law_mixed
  have cnames := Cal.mk0 (ok_names (K := K) F__law_names T ctake) (PySem.W.mg_of X G a__law_names) F__law_names.kp b__law_names
  have clag := Cal.mk0 (ok_lag (K := K) F__law_lag T ctake) (PySem.W.mg_of X G a__law_lag) F__law_lag.kp b__law_lag
  have cmodel := Cal.mk0 (ok_model (K := K) F__law_model T ctake cnames cmix clag) (PySem.W.mg_of X G a__law_model) F__law_model.kp b__law_model
  have cplan := Cal.mk0 (ok_plan F__law_plan T cPlan) (PySem.W.mg_of X G a__law_plan) F__law_plan.kp b__law_plan
  have cfar := Cal.mk0 (ok_far (P := l.prog) (w := w) (K := K) (base := base) F__law_far T) (PySem.W.mg_of X G a__law_far) F__law_far.kp b__law_far
  have cleads := Cal.mk0 (ok_leads (P := l.prog) (w := w) (K := K) (base := base) F__law_leads T cfar) (PySem.W.mg_of X G a__law_leads) F__law_leads.kp b__law_leads
  have ccs := Cal.mk0 (ok_closed_sm (P := l.prog) (w := w) (K := K) (base := base) F_closed_sums T cclose cpl crows) (PySem.W.mg_of X G a_closed_sums) F_closed_sums.kp b_closed_sums
  have cprof := Cal.mk0 (ok_prof (P := l.prog) (w := w) (K := K) (base := base) F_profile T) (PySem.W.mg_of X G a_profile) F_profile.kp b_profile
  have clike := Cal.mk0 (ok_like (P := l.prog) (w := w) (K := K) (base := base) F_is_like T) (PySem.W.mg_of X G a_is_like) F_is_like.kp b_is_like
  have cren := cal_ren (P := l.prog) (w := w) (K := K) (base := base) F_renamed_on T clike (PySem.W.mg_of X G a_renamed_on) b_renamed_on 9
  have crnm := Cal.mk0 (ok_rnm (P := l.prog) (w := w) (K := K) (base := base) F_renaming T PI mEvents cnp ccs cprof cren) (PySem.W.mg_of X G a_renaming) F_renaming.kp b_renaming
  have crend := Cal.mk0 (ok_renamed (P := l.prog) (w := w) (K := K) (base := base) F__law_renamed T) (PySem.W.mg_of X G a__law_renamed) F__law_renamed.kp b__law_renamed
  have csecond := Cal.mk0 (ok_sec47 (P := l.prog) (w := w) (K := K) (base := base) F__law_second T ctake cmix cnames crend cleads) (PySem.W.mg_of X G a__law_second) F__law_second.kp b__law_second
  have cis := Cal.mk0 (ok_law_is (P := l.prog) (w := w) (K := K) (base := base) F__law_is T) (PySem.W.mg_of X G a__law_is) F__law_is.kp b__law_is
  have cord := Cal.mk0 (ok_law_orders (P := l.prog) (w := w) (K := K) (base := base) F__law_orders T) (PySem.W.mg_of X G a__law_orders) F__law_orders.kp b__law_orders
  have cright := Cal.mk0 (ok_right47 (P := l.prog) (w := w) (K := K) (base := base) F__law_right T cplan crnm cleads cord cis) (PySem.W.mg_of X G a__law_right) F__law_right.kp b__law_right
  exact ok_law F_law T ccell cbox ctake cmodel csecond cplan crnm cright
end Pk
open PySem PySem.W PyProof.Rows
set_option maxHeartbeats 0 in
theorem PySem.Challenge.cw_pileups_k47_renamings_holds : PySem.Challenge.rw_pileups_k47_renamings.Holds := by
  w_on; o_law
  refine HandSHeadRun.head_any (r := (PySem.W.OpenLaw.row PySem.Challenge.rw_pileups_k47_renamings)) (q := PySem.W.view (PySem.W.OpenLaw.row PySem.Challenge.rw_pileups_k47_renamings).prog [60]) (H := Pk.hxK) (ob := Pk.hxOb) (M := 20000) (loose := Pk.hxNames) (d := HandSHeadRun.topDef (PySem.W.OpenLaw.row PySem.Challenge.rw_pileups_k47_renamings).prog 60) (kwd := []) Pk.hxOb_eq (by kernel_rfl) (fun s => by kernel_rfl) Pk.hxRun (by kernel_rfl) (by kernel_rfl) (by kernel_rfl) (by rfl) (by first | assumption | decide +kernel) (by decide +kernel) ⟨rfl, rfl, rfl, rfl, rfl, by decide +kernel⟩ ?hw ?hc
  case hw => w_witness2
  case hc =>
    refine Hx.walk_GX (l := PySem.Challenge.rw_pileups_k47_renamings) (n := 63) (k := 14) (x := "_law_script") rfl (by decide) (by kernel_rfl) ⟨rfl, by decide, by decide⟩ (fun w mg fa h Y G hmg0 => ?_)
    obtain ⟨K, KX, c⟩ := Y
    have hmg : mg ("law" : PySem.Str) = some (.ref fa) := by
      have e : (HandSHeadRun.topDef (PySem.W.OpenLaw.row PySem.Challenge.rw_pileups_k47_renamings).prog 60).name = ("law" : PySem.Str) := by kernel_rfl
      rw [← e]
      exact hmg0
    obtain ⟨fd, hb, hF⟩ := Pk.all_mk KX G hmg c
    exact ⟨K, KX, fd, Pk.spLaw K, hb, fun H a ns hl hS => ⟨a, ns, rfl, hS, hl, fun _ => rfl⟩, hF⟩

